/- What Make makes of numbers, plainly. No Go of the program in it. -/
import Derived.Test.YtfdfeiempeciiaaTree
namespace Go.Proofs.Ytfdfeiempeciiaa
open Go.ChangeShapes Go.WideShapes Go.ChangeAt Go.RowKit
set_option linter.unusedVariables false

def Ex.zero : Ex := ⟨0, 0, 0, 0, { data := #[] }, { data := #[] }, [], .slice none 0 0, 0, 0⟩
def Pl.zero : Pl := ⟨0, { data := #[] }, { data := #[] }, Ex.zero, 0, 0⟩
def Rt.zero : Rt := ⟨0, Ex.zero, Pl.zero, { data := #[] }, 0, 0⟩
def St.zero : St := ⟨0, { data := #[] }, Rt.zero, Pl.zero, Ex.zero, 0, [], .slice none 0 0, [], .slice none 0 0, [], .slice none 0 0, 0, 0⟩
theorem Ex.zero_ok (w : World) (F : Nat → Prop) : Ex.zero.ok w F := (Ex.ok_iff _ _ _).2 ⟨by simp [Ex.zero, I64, U64], RowAt.nil _ _ _, by simp [Ex.zero]⟩
theorem Pl.zero_ok (w : World) (F : Nat → Prop) : Pl.zero.ok w F := ⟨by simp [Pl.zero, I64], Ex.zero_ok w F⟩
theorem Rt.zero_ok (w : World) (F : Nat → Prop) : Rt.zero.ok w F := ⟨by simp [Rt.zero, I64], Ex.zero_ok w F, Pl.zero_ok w F⟩

/-- Without where its rows lie. -/
def Ex.bare (e : Ex) : Ex := match e with
  | ⟨op, bin, n, tk, tr, nm, kids, _, line, col⟩ => ⟨op, bin, n, tk, tr, nm, kids.attach.map (fun (x : { x // x ∈ kids }) => have := List.sizeOf_lt_of_mem x.2; x.1.bare), .slice none 0 0, line, col⟩
theorem map_attach' {α β : Type} (l : List α) (f : α → β) : l.attach.map (fun x => f x.1) = l.map f := by
  have : ∀ k : List { x // x ∈ l }, k.map (fun x => f x.1) = (k.map (·.1)).map f := by
    intro k
    induction k with
    | nil => rfl
    | cons a k ih => simp only [List.map_cons, ih]
  rw [this, List.attach_map_subtype_val]
theorem Ex.bare_eq (e : Ex) : e.bare = { e with kids := e.kids.map Ex.bare, kv := .slice none 0 0 } := by
  cases e
  rw [Ex.bare]
  congr 1
  exact map_attach' _ Ex.bare
def Pl.bare (p : Pl) : Pl := { p with index := p.index.bare }
def Rt.bare (r : Rt) : Rt := { r with e := r.e.bare, place := r.place.bare }
def St.bare (s : St) : St := match s with
  | ⟨op, nm, right, place, e, n, args, _, body, _, els, _, line, col⟩ => ⟨op, nm, right.bare, place.bare, e.bare, n, args.map Ex.bare, .slice none 0 0,
    body.attach.map (fun (x : { x // x ∈ body }) => have := List.sizeOf_lt_of_mem x.2; x.1.bare), .slice none 0 0, els.attach.map (fun (x : { x // x ∈ els }) => have := List.sizeOf_lt_of_mem x.2; x.1.bare), .slice none 0 0, line, col⟩
theorem St.bare_eq (s : St) : s.bare = { s with right := s.right.bare, place := s.place.bare, e := s.e.bare, args := s.args.map Ex.bare, av := .slice none 0 0, body := s.body.map St.bare, bv := .slice none 0 0, els := s.els.map St.bare, ev := .slice none 0 0 } := by
  cases s
  rw [St.bare]
  congr 1
  · exact map_attach' _ St.bare
  · exact map_attach' _ St.bare
def Rc.bare (r : Rc) : Rc := { r with fv := .slice none 0 0 }
def Fn.bare (f : Fn) : Fn := { f with pv := .slice none 0 0, body := f.body.map St.bare, bv := .slice none 0 0 }
def Th.bare (t : Th) : Th := { t with body := t.body.map St.bare, bv := .slice none 0 0 }
def Pg.bare (p : Pg) : Pg := { recs := p.recs.map Rc.bare, rv := .slice none 0 0, globs := p.globs, gv := .slice none 0 0, funs := p.funs.map Fn.bare, fv := .slice none 0 0, threads := p.threads.map Th.bare, tv := .slice none 0 0 }

theorem Ex.zero_bare : Ex.zero.bare = Ex.zero := by rw [Ex.bare_eq]; rfl
theorem Pl.zero_bare : Pl.zero.bare = Pl.zero := by simp [Pl.bare, Pl.zero, Ex.zero_bare]
theorem Rt.zero_bare : Rt.zero.bare = Rt.zero := by simp [Rt.bare, Rt.zero, Ex.zero_bare, Pl.zero_bare]

/-- The next number, by how many there are; how far it has come then. -/
def pk (N : List Int) (n i : Nat) : Nat := match N[i]? with
  | none => 0
  | some x => (x % 18446744073709551616).toNat % n
def nx (N : List Int) (i : Nat) : Nat := if i < N.length then i + 1 else i
theorem pk_lt (N : List Int) (n i : Nat) (h : 0 < n) : pk N n i < n := by
  unfold pk
  split
  · exact h
  · exact Nat.mod_lt _ h
theorem nx_le (N : List Int) (i : Nat) (h : i ≤ N.length) : nx N i ≤ N.length := by
  unfold nx
  split <;> omega

def nmV (k : Nat) : ByteArray := { data := #[[97, 98, 120, 121, 103, 82, 81, 102].getD k 97] }
def realV (k : Nat) : Int := [0, 9223372036854775808, 9221120237041090560, 4607182418800017408].getD k 0

def kindM (N : List Int) (i : Nat) : (Int × ByteArray) × Nat := if pk N 4 i = 3 then ((4, nmV (pk N 8 (nx N i))), nx N (nx N i)) else (((1 + pk N 4 i : Nat), { data := #[] }), nx N i)

/-- Expressions without kids. -/
def leafM (N : List Int) (o i : Nat) : Ex × Nat :=
  if o = 1 then ({ Ex.zero with op := 1, n := pk N 200 i }, nx N i)
  else if o = 2 then ({ Ex.zero with op := 2, n := realV (pk N 4 i) }, nx N i)
  else if o = 3 then (if pk N 4 i = 0 then ({ Ex.zero with op := 3, tk := 3 }, nx N i) else ({ Ex.zero with op := 3, tk := 4, tr := nmV (pk N 8 (nx N i)) }, nx N (nx N i)))
  else if o = 4 then ({ Ex.zero with op := 4, n := pk N 16 i }, nx N i)
  else ({ Ex.zero with op := 5, nm := nmV (pk N 8 i) }, nx N i)

def exprM (N : List Int) : Nat → Nat → Ex × Nat
  | 0, i => leafM N (if 5 < 1 + pk N 9 i then 5 else 1 + pk N 9 i) (nx N i)
  | d + 1, i =>
    if 1 + pk N 9 i ≤ 5 then leafM N (1 + pk N 9 i) (nx N i)
    else if 1 + pk N 9 i = 9 then
      ({ Ex.zero with op := 9, bin := pk N 9 (nx N i), kids := [(exprM N d (nx N (nx N i))).1, (exprM N d (exprM N d (nx N (nx N i))).2).1] }, (exprM N d (exprM N d (nx N (nx N i))).2).2)
    else ({ Ex.zero with op := (1 + pk N 9 i : Nat), kids := [(exprM N d (nx N i)).1] }, (exprM N d (nx N i)).2)

def placeM (N : List Int) (i : Nat) : Pl × Nat :=
  if pk N 3 i = 0 then ({ Pl.zero with op := 1, base := nmV (pk N 8 (nx N i)) }, nx N (nx N i))
  else if pk N 3 i = 1 then ({ Pl.zero with op := 2, base := nmV (pk N 8 (nx N i)), field := nmV (pk N 8 (nx N (nx N i))) }, nx N (nx N (nx N i)))
  else ({ Pl.zero with op := 3, base := nmV (pk N 8 (nx N i)), index := (exprM N 2 (nx N (nx N i))).1 }, (exprM N 2 (nx N (nx N i))).2)

def rightM (N : List Int) (i : Nat) : Rt × Nat :=
  if pk N 6 i = 0 then ({ Rt.zero with op := 2, place := (placeM N (nx N i)).1 }, (placeM N (nx N i)).2)
  else if pk N 6 i = 1 then ({ Rt.zero with op := 3, nm := nmV (pk N 8 (nx N i)) }, nx N (nx N i))
  else if pk N 6 i = 2 then ({ Rt.zero with op := 4, e := (exprM N 2 (nx N i)).1 }, (exprM N 2 (nx N i)).2)
  else if pk N 6 i = 3 then ({ Rt.zero with op := 5, nm := nmV (pk N 8 (nx N i)) }, nx N (nx N i))
  else ({ Rt.zero with op := 1, e := (exprM N 3 (nx N i)).1 }, (exprM N 3 (nx N i)).2)

/-- So many names. -/
def namesL (N : List Int) : Nat → Nat → List Nm × Nat
  | 0, i => ([], i)
  | k + 1, i => (⟨nmV (pk N 8 i), (kindM N (nx N i)).1.1, (kindM N (nx N i)).1.2, 0, 0⟩ :: (namesL N k (kindM N (nx N i)).2).1, (namesL N k (kindM N (nx N i)).2).2)
def namesM (N : List Int) (most i : Nat) : List Nm × Nat := namesL N (pk N most i) (nx N i)
theorem kindM_i64 (N : List Int) (i : Nat) : I64 (kindM N i).1.1 := by
  have := pk_lt N 4 i (by omega)
  unfold kindM
  split <;> simp [I64] <;> omega
theorem namesL_len (N : List Int) (k : Nat) : ∀ i, (namesL N k i).1.length = k := by
  induction k with
  | zero => intro i; rfl
  | succ k ih => intro i; simp [namesL, ih]
theorem namesL_ok (N : List Int) (k : Nat) : ∀ i, ∀ x ∈ (namesL N k i).1, x.ok := by
  induction k with
  | zero => intro i x hx; simp [namesL] at hx
  | succ k ih =>
    intro i x hx
    simp only [namesL, List.mem_cons] at hx
    rcases hx with rfl | hx
    · exact kindM_i64 N _
    · exact ih _ x hx

/-- So many expressions. -/
def exprsL (N : List Int) (d : Nat) : Nat → Nat → List Ex × Nat
  | 0, i => ([], i)
  | k + 1, i => ((exprM N d i).1 :: (exprsL N d k (exprM N d i).2).1, (exprsL N d k (exprM N d i).2).2)

/-- A statement of a kind; row: what the rows within are made by. -/
def stmtO (N : List Int) (row : Nat → Nat → (List St × Nat) × Nat) (o i l : Nat) : (St × Nat) × Nat :=
  if o ≤ 3 then (({ St.zero with op := o, nm := nmV (pk N 8 i), right := (rightM N (nx N i)).1 }, (rightM N (nx N i)).2), l)
  else if o = 4 then (({ St.zero with op := 4, place := (placeM N i).1, e := (exprM N 2 (placeM N i).2).1 }, (exprM N 2 (placeM N i).2).2), l)
  else if o = 5 then (({ St.zero with op := 5, e := (exprM N 3 i).1 }, (exprM N 3 i).2), l)
  else if o = 6 then
    (if pk N 2 (row (exprM N 2 i).2 l).1.2 = 0 then
      (({ St.zero with op := 6, e := (exprM N 2 i).1, body := (row (exprM N 2 i).2 l).1.1, els := (row (nx N (row (exprM N 2 i).2 l).1.2) (row (exprM N 2 i).2 l).2).1.1 }, (row (nx N (row (exprM N 2 i).2 l).1.2) (row (exprM N 2 i).2 l).2).1.2), (row (nx N (row (exprM N 2 i).2 l).1.2) (row (exprM N 2 i).2 l).2).2)
    else (({ St.zero with op := 6, e := (exprM N 2 i).1, body := (row (exprM N 2 i).2 l).1.1 }, nx N (row (exprM N 2 i).2 l).1.2), (row (exprM N 2 i).2 l).2))
  else if o = 7 then
    (if pk N 2 i = 0 then (({ St.zero with op := 7, nm := nmV (pk N 8 (nx N i)), n := pk N 9 (nx N (nx N i)), body := (row (nx N (nx N (nx N i))) l).1.1 }, (row (nx N (nx N (nx N i))) l).1.2), (row (nx N (nx N (nx N i))) l).2)
    else (({ St.zero with op := 7, n := pk N 9 (nx N i), body := (row (nx N (nx N i)) l).1.1 }, (row (nx N (nx N i)) l).1.2), (row (nx N (nx N i)) l).2))
  else if o ≤ 9 then (if pk N 2 i = 0 then (({ St.zero with op := o, nm := nmV (pk N 8 (nx N i)) }, nx N (nx N i)), l) else (({ St.zero with op := o }, nx N i), l))
  else if o = 10 then (({ St.zero with op := 10, body := (row i l).1.1 }, (row i l).1.2), (row i l).2)
  else (({ St.zero with op := 11, nm := nmV (pk N 8 i), args := (exprsL N 1 (pk N 3 (nx N i)) (nx N (nx N i))).1 }, (exprsL N 1 (pk N 3 (nx N i)) (nx N (nx N i))).2), l)

/-- A statement at depth d. -/
def stmtF (N : List Int) (z : Bool) (row : Nat → Nat → (List St × Nat) × Nat) (i l : Nat) : (St × Nat) × Nat :=
  stmtO N row (if z = true ∧ (pk N 11 i = 5 ∨ pk N 11 i = 6 ∨ pk N 11 i = 9) then 5 else 1 + pk N 11 i) (nx N i) l

def rowF (stmt : Nat → Nat → (St × Nat) × Nat) : Nat → Nat → Nat → (List St × Nat) × Nat
  | 0, i, l => (([], i), l)
  | n + 1, i, l => if l = 0 then (([], i), 0) else (((stmt i (l - 1)).1.1 :: (rowF stmt n (stmt i (l - 1)).1.2 (stmt i (l - 1)).2).1.1, (rowF stmt n (stmt i (l - 1)).1.2 (stmt i (l - 1)).2).1.2), (rowF stmt n (stmt i (l - 1)).1.2 (stmt i (l - 1)).2).2)

def rowM (N : List Int) : Nat → Nat → Nat → (List St × Nat) × Nat
  | 0, i, l => rowF (stmtF N true (fun i l => (([], i), l))) (pk N 4 i) (nx N i) l
  | d + 1, i, l => rowF (stmtF N false (rowM N d)) (pk N 4 i) (nx N i) l

/-- How far it comes is at most how far there is. -/
theorem leafM_le (N : List Int) (o i : Nat) (h : i ≤ N.length) : (leafM N o i).2 ≤ N.length := by
  unfold leafM
  repeat' split
  all_goals first | exact nx_le _ _ h | exact nx_le _ _ (nx_le _ _ h)
theorem exprM_le (N : List Int) (d : Nat) : ∀ i, i ≤ N.length → (exprM N d i).2 ≤ N.length := by
  induction d with
  | zero => intro i h; exact leafM_le _ _ _ (nx_le _ _ h)
  | succ d ih =>
    intro i h
    unfold exprM
    repeat' split
    · exact leafM_le _ _ _ (nx_le _ _ h)
    · exact ih _ (ih _ (nx_le _ _ (nx_le _ _ h)))
    · exact ih _ (nx_le _ _ h)
theorem placeM_le (N : List Int) (i : Nat) (h : i ≤ N.length) : (placeM N i).2 ≤ N.length := by
  have h1 := nx_le _ _ h
  unfold placeM
  repeat' split
  · exact nx_le _ _ h1
  · exact nx_le _ _ (nx_le _ _ h1)
  · exact exprM_le _ _ _ (nx_le _ _ h1)
theorem rightM_le (N : List Int) (i : Nat) (h : i ≤ N.length) : (rightM N i).2 ≤ N.length := by
  have h1 := nx_le _ _ h
  unfold rightM
  repeat' split
  · exact placeM_le _ _ h1
  · exact nx_le _ _ h1
  · exact exprM_le _ _ _ h1
  · exact nx_le _ _ h1
  · exact exprM_le _ _ _ h1
end Go.Proofs.Ytfdfeiempeciiaa
