/- Programs as trees, plainly: their cells, how they lie in memory, and when two are the same but for places. No Go of the program in it. -/
import Derived.Test.YtfdfeiempeciiaaMem
namespace Go.Proofs.Ytfdfeiempeciiaa
open Go.ChangeShapes Go.WideShapes Go.ChangeAt Go.RowKit
set_option linter.unusedVariables false

/-- An expression; kv: its row of kids, as a value. -/
structure Ex where
  op : Int
  bin : Int
  n : Int
  tk : Int
  tr : ByteArray
  nm : ByteArray
  kids : List Ex
  kv : Value
  line : Int
  col : Int

/-- A place, a right side. -/
structure Pl where
  op : Int
  base : ByteArray
  field : ByteArray
  index : Ex
  line : Int
  col : Int
structure Rt where
  op : Int
  e : Ex
  place : Pl
  nm : ByteArray
  line : Int
  col : Int

/-- A statement. -/
structure St where
  op : Int
  nm : ByteArray
  right : Rt
  place : Pl
  e : Ex
  n : Int
  args : List Ex
  av : Value
  body : List St
  bv : Value
  els : List St
  ev : Value
  line : Int
  col : Int

structure Nm where
  nm : ByteArray
  tk : Int
  tr : ByteArray
  line : Int
  col : Int
structure Rc where
  nm : ByteArray
  fields : List Nm
  fv : Value
  line : Int
  col : Int
structure Fn where
  nm : ByteArray
  params : List Nm
  pv : Value
  body : List St
  bv : Value
  line : Int
  col : Int
structure Th where
  body : List St
  bv : Value
  line : Int
  col : Int
structure Pg where
  recs : List Rc
  rv : Value
  globs : List Nm
  gv : Value
  funs : List Fn
  fv : Value
  threads : List Th
  tv : Value

def Ex.cells (e : Ex) : List Value := [.int .i64 e.op, .int .i64 e.bin, .int .u64 e.n, .int .i64 e.tk, .string e.tr, .string e.nm, e.kv, .int .i64 e.line, .int .i64 e.col]
def Pl.cells (p : Pl) : List Value := [.int .i64 p.op, .string p.base, .string p.field] ++ (p.index.cells ++ [.int .i64 p.line, .int .i64 p.col])
def Rt.cells (r : Rt) : List Value := [.int .i64 r.op] ++ (r.e.cells ++ (r.place.cells ++ [.string r.nm, .int .i64 r.line, .int .i64 r.col]))
def St.cells (s : St) : List Value := [.int .i64 s.op, .string s.nm] ++ (s.right.cells ++ (s.place.cells ++ (s.e.cells ++ [.int .i64 s.n, s.av, s.bv, s.ev, .int .i64 s.line, .int .i64 s.col])))
def Nm.cells (n : Nm) : List Value := [.string n.nm, .int .i64 n.tk, .string n.tr, .int .i64 n.line, .int .i64 n.col]
def Rc.cells (r : Rc) : List Value := [.string r.nm, r.fv, .int .i64 r.line, .int .i64 r.col]
def Fn.cells (f : Fn) : List Value := [.string f.nm, f.pv, f.bv, .int .i64 f.line, .int .i64 f.col]
def Th.cells (t : Th) : List Value := [t.bv, .int .i64 t.line, .int .i64 t.col]
def Pg.cells (p : Pg) : List Value := [p.rv, p.gv, p.fv, p.tv]

def Ex.val (e : Ex) : Value := .agg e.cells.toArray
def Pl.val (e : Pl) : Value := .agg e.cells.toArray
def Rt.val (e : Rt) : Value := .agg e.cells.toArray
def St.val (e : St) : Value := .agg e.cells.toArray
def Nm.val (e : Nm) : Value := .agg e.cells.toArray
def Rc.val (e : Rc) : Value := .agg e.cells.toArray
def Fn.val (e : Fn) : Value := .agg e.cells.toArray
def Th.val (e : Th) : Value := .agg e.cells.toArray
def Pg.val (e : Pg) : Value := .agg e.cells.toArray

theorem Ex.len (e : Ex) : e.cells.length = 9 := rfl
theorem Pl.len (e : Pl) : e.cells.length = 14 := rfl
theorem Rt.len (e : Rt) : e.cells.length = 27 := rfl
theorem St.len (e : St) : e.cells.length = 58 := rfl
theorem Nm.len (e : Nm) : e.cells.length = 5 := rfl
theorem Rc.len (e : Rc) : e.cells.length = 4 := rfl
theorem Fn.len (e : Fn) : e.cells.length = 5 := rfl
theorem Th.len (e : Th) : e.cells.length = 3 := rfl
theorem Pg.len (e : Pg) : e.cells.length = 4 := rfl

theorem Ex.agg (e : Ex) : AggT 46 e.cells.length := agg46
theorem Pl.agg (e : Pl) : AggT 48 e.cells.length := by rw [Pl.len]; exact agg48
theorem Rt.agg (e : Rt) : AggT 50 e.cells.length := by rw [Rt.len]; exact agg50
theorem St.agg (e : St) : AggT 52 e.cells.length := by rw [St.len]; exact agg52

theorem Ex.ind {p : Ex → Prop} (h : ∀ e : Ex, (∀ k ∈ e.kids, p k) → p e) (e : Ex) : p e := by
  have : ∀ n, ∀ e : Ex, SizeOf.sizeOf e < n → p e := by
    intro n
    induction n with
    | zero => intro e he; omega
    | succ n ih =>
      intro e he
      refine h e fun k hk => ih k ?_
      have := List.sizeOf_lt_of_mem hk
      cases e
      simp at *
      omega
  exact this _ e (Nat.lt_succ_self _)

theorem St.ind {p : St → Prop} (h : ∀ e : St, (∀ k ∈ e.body, p k) → (∀ k ∈ e.els, p k) → p e) (e : St) : p e := by
  have : ∀ n, ∀ e : St, SizeOf.sizeOf e < n → p e := by
    intro n
    induction n with
    | zero => intro e he; omega
    | succ n ih =>
      intro e he
      refine h e (fun k hk => ih k ?_) (fun k hk => ih k ?_)
      · have := List.sizeOf_lt_of_mem hk
        cases e
        simp at *
        omega
      · have := List.sizeOf_lt_of_mem hk
        cases e
        simp at *
        omega
  exact this _ e (Nat.lt_succ_self _)

/-- Whole numbers of 64 bits. -/
def I64 (n : Int) : Prop := -9223372036854775808 ≤ n ∧ n ≤ 9223372036854775807
def U64 (n : Int) : Prop := 0 ≤ n ∧ n < 18446744073709551616

/-- It lies in memory, all that it reaches in blocks of F. -/
def Ex.ok (w : World) (F : Nat → Prop) (e : Ex) : Prop := match e with
  | ⟨op, bin, n, tk, tr, nm, kids, kv, line, col⟩ => (I64 op ∧ I64 bin ∧ U64 n ∧ I64 tk) ∧ RowAt w F 9 kv kids.length (kids.flatMap Ex.cells) ∧ ∀ k, (h : k ∈ kids) → Ex.ok w F k
theorem Ex.ok_iff (w : World) (F : Nat → Prop) (e : Ex) : e.ok w F ↔ (I64 e.op ∧ I64 e.bin ∧ U64 e.n ∧ I64 e.tk) ∧ RowAt w F 9 e.kv e.kids.length (e.kids.flatMap Ex.cells) ∧ ∀ k, k ∈ e.kids → k.ok w F := by
  cases e
  rw [Ex.ok]
theorem Ex.ok.nums {w : World} {F : Nat → Prop} {e : Ex} (h : e.ok w F) : I64 e.op ∧ I64 e.bin ∧ U64 e.n ∧ I64 e.tk := ((Ex.ok_iff w F e).1 h).1
theorem Ex.ok.row {w : World} {F : Nat → Prop} {e : Ex} (h : e.ok w F) : RowAt w F 9 e.kv e.kids.length (e.kids.flatMap Ex.cells) := ((Ex.ok_iff w F e).1 h).2.1
theorem Ex.ok.kid {w : World} {F : Nat → Prop} {e : Ex} (h : e.ok w F) : ∀ k, k ∈ e.kids → k.ok w F := ((Ex.ok_iff w F e).1 h).2.2
theorem Ex.ok.keep {w w' : World} {F : Nat → Prop} {e : Ex} (h : e.ok w F) (hk : ∀ g, F g → g < w.heap.size → w'.heap[g]? = w.heap[g]?) : e.ok w' F := by
  induction e using Ex.ind with
  | h e ih => exact (Ex.ok_iff _ _ _).2 ⟨h.nums, h.row.keep hk, fun k hm => ih k hm (h.kid k hm)⟩
theorem Ex.ok.kept {w w' : World} {F : Nat → Prop} {e : Ex} (h : e.ok w F) (k : Below w.heap.size w w') : e.ok w' F := h.keep (fun g _ hg => k.block g hg)
theorem Ex.ok.mono {w : World} {F G : Nat → Prop} {e : Ex} (h : e.ok w F) (hs : ∀ g, F g → g < w.heap.size → G g) : e.ok w G := by
  induction e using Ex.ind with
  | h e ih => exact (Ex.ok_iff _ _ _).2 ⟨h.nums, h.row.mono hs, fun k hm => ih k hm (h.kid k hm)⟩
theorem Ex.ok.one {w : World} {F : Nat → Prop} {e : Ex} (h : e.ok w F) : ∀ v ∈ e.cells, v.oneCell' = true := by
  intro v hv
  simp only [Ex.cells, List.mem_cons, List.not_mem_nil, or_false] at hv
  rcases hv with rfl | rfl | rfl | rfl | rfl | rfl | rfl | rfl | rfl
  all_goals first | rfl | exact h.row.one

def Pl.ok (w : World) (F : Nat → Prop) (p : Pl) : Prop := I64 p.op ∧ p.index.ok w F
def Rt.ok (w : World) (F : Nat → Prop) (r : Rt) : Prop := I64 r.op ∧ r.e.ok w F ∧ r.place.ok w F
theorem Pl.ok.keep {w w' : World} {F : Nat → Prop} {e : Pl} (h : e.ok w F) (hk : ∀ g, F g → g < w.heap.size → w'.heap[g]? = w.heap[g]?) : e.ok w' F := ⟨h.1, h.2.keep hk⟩
theorem Rt.ok.keep {w w' : World} {F : Nat → Prop} {e : Rt} (h : e.ok w F) (hk : ∀ g, F g → g < w.heap.size → w'.heap[g]? = w.heap[g]?) : e.ok w' F := ⟨h.1, h.2.1.keep hk, Pl.ok.keep h.2.2 hk⟩
theorem Pl.ok.mono {w : World} {F G : Nat → Prop} {e : Pl} (h : e.ok w F) (hs : ∀ g, F g → g < w.heap.size → G g) : e.ok w G := ⟨h.1, h.2.mono hs⟩
theorem Rt.ok.mono {w : World} {F G : Nat → Prop} {e : Rt} (h : e.ok w F) (hs : ∀ g, F g → g < w.heap.size → G g) : e.ok w G := ⟨h.1, h.2.1.mono hs, Pl.ok.mono h.2.2 hs⟩
theorem Pl.ok.kept {w w' : World} {F : Nat → Prop} {e : Pl} (h : e.ok w F) (k : Below w.heap.size w w') : e.ok w' F := Pl.ok.keep h (fun g _ hg => k.block g hg)
theorem Rt.ok.kept {w w' : World} {F : Nat → Prop} {e : Rt} (h : e.ok w F) (k : Below w.heap.size w w') : e.ok w' F := Rt.ok.keep h (fun g _ hg => k.block g hg)
theorem Pl.ok.one {w : World} {F : Nat → Prop} {e : Pl} (h : e.ok w F) : ∀ v ∈ e.cells, v.oneCell' = true := by
  intro v hv
  simp only [Pl.cells, List.mem_append, List.mem_cons, List.not_mem_nil, or_false] at hv
  rcases hv with (rfl | rfl | rfl) | hv | rfl | rfl
  all_goals first | rfl | exact h.2.one v hv
theorem Rt.ok.one {w : World} {F : Nat → Prop} {e : Rt} (h : e.ok w F) : ∀ v ∈ e.cells, v.oneCell' = true := by
  intro v hv
  simp only [Rt.cells, List.mem_append, List.mem_cons, List.not_mem_nil, or_false] at hv
  rcases hv with rfl | hv | hv | rfl | rfl | rfl
  all_goals first | rfl | exact h.2.1.one v hv | exact Pl.ok.one h.2.2 v hv

/-- All of a row of expressions. -/
def exsOk (w : World) (F : Nat → Prop) (v : Value) (l : List Ex) : Prop := RowAt w F 9 v l.length (l.flatMap Ex.cells) ∧ ∀ k, k ∈ l → k.ok w F

/-- A statement's own part: all but what its rows of statements hold. -/
def St.head (w : World) (F : Nat → Prop) (s : St) : Prop := (I64 s.op ∧ I64 s.n) ∧ s.right.ok w F ∧ s.place.ok w F ∧ s.e.ok w F ∧ exsOk w F s.av s.args ∧
  RowAt w F 58 s.bv s.body.length (s.body.flatMap St.cells) ∧ RowAt w F 58 s.ev s.els.length (s.els.flatMap St.cells)

def St.ok (w : World) (F : Nat → Prop) (s : St) : Prop := match s with
  | ⟨op, nm, right, place, e, n, args, av, body, bv, els, ev, line, col⟩ => St.head w F ⟨op, nm, right, place, e, n, args, av, body, bv, els, ev, line, col⟩ ∧ (∀ k, (h : k ∈ body) → St.ok w F k) ∧ ∀ k, (h : k ∈ els) → St.ok w F k
theorem St.ok_iff (w : World) (F : Nat → Prop) (s : St) : s.ok w F ↔ s.head w F ∧ (∀ k, k ∈ s.body → k.ok w F) ∧ ∀ k, k ∈ s.els → k.ok w F := by
  cases s
  rw [St.ok]

theorem exsOk.keep {w w' : World} {F : Nat → Prop} {v : Value} {l : List Ex} (h : exsOk w F v l) (hk : ∀ g, F g → g < w.heap.size → w'.heap[g]? = w.heap[g]?) : exsOk w' F v l := ⟨h.1.keep hk, fun k hm => (h.2 k hm).keep hk⟩
theorem exsOk.mono {w : World} {F G : Nat → Prop} {v : Value} {l : List Ex} (h : exsOk w F v l) (hs : ∀ g, F g → g < w.heap.size → G g) : exsOk w G v l := ⟨h.1.mono hs, fun k hm => (h.2 k hm).mono hs⟩
theorem exsOk.kept {w w' : World} {F : Nat → Prop} {v : Value} {l : List Ex} (h : exsOk w F v l) (k : Below w.heap.size w w') : exsOk w' F v l := h.keep (fun g _ hg => k.block g hg)
theorem St.head.keep {w w' : World} {F : Nat → Prop} {s : St} (h : s.head w F) (hk : ∀ g, F g → g < w.heap.size → w'.heap[g]? = w.heap[g]?) : s.head w' F :=
  ⟨h.1, Rt.ok.keep h.2.1 hk, Pl.ok.keep h.2.2.1 hk, h.2.2.2.1.keep hk, h.2.2.2.2.1.keep hk, h.2.2.2.2.2.1.keep hk, h.2.2.2.2.2.2.keep hk⟩
theorem St.head.mono {w : World} {F G : Nat → Prop} {s : St} (h : s.head w F) (hs : ∀ g, F g → g < w.heap.size → G g) : s.head w G :=
  ⟨h.1, Rt.ok.mono h.2.1 hs, Pl.ok.mono h.2.2.1 hs, h.2.2.2.1.mono hs, h.2.2.2.2.1.mono hs, h.2.2.2.2.2.1.mono hs, h.2.2.2.2.2.2.mono hs⟩
theorem St.ok.hd {w : World} {F : Nat → Prop} {s : St} (h : s.ok w F) : s.head w F := ((St.ok_iff w F s).1 h).1
theorem St.ok.bodies {w : World} {F : Nat → Prop} {s : St} (h : s.ok w F) : ∀ k, k ∈ s.body → k.ok w F := ((St.ok_iff w F s).1 h).2.1
theorem St.ok.elses {w : World} {F : Nat → Prop} {s : St} (h : s.ok w F) : ∀ k, k ∈ s.els → k.ok w F := ((St.ok_iff w F s).1 h).2.2
theorem St.ok.keep {w w' : World} {F : Nat → Prop} {s : St} (h : s.ok w F) (hk : ∀ g, F g → g < w.heap.size → w'.heap[g]? = w.heap[g]?) : s.ok w' F := by
  induction s using St.ind with
  | h e ih1 ih2 => exact (St.ok_iff _ _ _).2 ⟨h.hd.keep hk, fun k hm => ih1 k hm (h.bodies k hm), fun k hm => ih2 k hm (h.elses k hm)⟩
theorem St.ok.mono {w : World} {F G : Nat → Prop} {s : St} (h : s.ok w F) (hs : ∀ g, F g → g < w.heap.size → G g) : s.ok w G := by
  induction s using St.ind with
  | h e ih1 ih2 => exact (St.ok_iff _ _ _).2 ⟨h.hd.mono hs, fun k hm => ih1 k hm (h.bodies k hm), fun k hm => ih2 k hm (h.elses k hm)⟩
theorem St.ok.kept {w w' : World} {F : Nat → Prop} {s : St} (h : s.ok w F) (k : Below w.heap.size w w') : s.ok w' F := h.keep (fun g _ hg => k.block g hg)
theorem St.head.one {w : World} {F : Nat → Prop} {s : St} (h : s.head w F) : ∀ v ∈ s.cells, v.oneCell' = true := by
  intro v hv
  simp only [St.cells, List.mem_append, List.mem_cons, List.not_mem_nil, or_false] at hv
  rcases hv with (rfl | rfl) | hv | hv | hv | rfl | rfl | rfl | rfl | rfl | rfl
  all_goals first | rfl | exact Rt.ok.one h.2.1 v hv | exact Pl.ok.one h.2.2.1 v hv | exact h.2.2.2.1.one v hv | exact h.2.2.2.2.1.1.one | exact h.2.2.2.2.2.1.one | exact h.2.2.2.2.2.2.one

/-- All of a row of statements. -/
def stsOk (w : World) (F : Nat → Prop) (v : Value) (l : List St) : Prop := RowAt w F 58 v l.length (l.flatMap St.cells) ∧ ∀ k, k ∈ l → k.ok w F
theorem stsOk.keep {w w' : World} {F : Nat → Prop} {v : Value} {l : List St} (h : stsOk w F v l) (hk : ∀ g, F g → g < w.heap.size → w'.heap[g]? = w.heap[g]?) : stsOk w' F v l := ⟨h.1.keep hk, fun k hm => (h.2 k hm).keep hk⟩
theorem stsOk.mono {w : World} {F G : Nat → Prop} {v : Value} {l : List St} (h : stsOk w F v l) (hs : ∀ g, F g → g < w.heap.size → G g) : stsOk w G v l := ⟨h.1.mono hs, fun k hm => (h.2 k hm).mono hs⟩
theorem stsOk.kept {w w' : World} {F : Nat → Prop} {v : Value} {l : List St} (h : stsOk w F v l) (k : Below w.heap.size w w') : stsOk w' F v l := h.keep (fun g _ hg => k.block g hg)

def Nm.ok (n : Nm) : Prop := I64 n.tk
def nmsOk (w : World) (F : Nat → Prop) (v : Value) (l : List Nm) : Prop := RowAt w F 5 v l.length (l.flatMap Nm.cells) ∧ ∀ k, k ∈ l → k.ok
def Rc.ok (w : World) (F : Nat → Prop) (r : Rc) : Prop := nmsOk w F r.fv r.fields
def Fn.ok (w : World) (F : Nat → Prop) (f : Fn) : Prop := nmsOk w F f.pv f.params ∧ stsOk w F f.bv f.body
def Th.ok (w : World) (F : Nat → Prop) (t : Th) : Prop := stsOk w F t.bv t.body
def Pg.ok (w : World) (F : Nat → Prop) (p : Pg) : Prop :=
  (RowAt w F 4 p.rv p.recs.length (p.recs.flatMap Rc.cells) ∧ ∀ k, k ∈ p.recs → k.ok w F) ∧ nmsOk w F p.gv p.globs ∧
  (RowAt w F 5 p.fv p.funs.length (p.funs.flatMap Fn.cells) ∧ ∀ k, k ∈ p.funs → k.ok w F) ∧ (RowAt w F 3 p.tv p.threads.length (p.threads.flatMap Th.cells) ∧ ∀ k, k ∈ p.threads → k.ok w F)
theorem nmsOk.keep {w w' : World} {F : Nat → Prop} {v : Value} {l : List Nm} (h : nmsOk w F v l) (hk : ∀ g, F g → g < w.heap.size → w'.heap[g]? = w.heap[g]?) : nmsOk w' F v l := ⟨h.1.keep hk, h.2⟩
theorem nmsOk.mono {w : World} {F G : Nat → Prop} {v : Value} {l : List Nm} (h : nmsOk w F v l) (hs : ∀ g, F g → g < w.heap.size → G g) : nmsOk w G v l := ⟨h.1.mono hs, h.2⟩
theorem Pg.ok.keep {w w' : World} {F : Nat → Prop} {p : Pg} (h : p.ok w F) (hk : ∀ g, F g → g < w.heap.size → w'.heap[g]? = w.heap[g]?) : p.ok w' F :=
  ⟨⟨h.1.1.keep hk, fun k hm => nmsOk.keep (h.1.2 k hm) hk⟩, h.2.1.keep hk, ⟨h.2.2.1.1.keep hk, fun k hm => ⟨(h.2.2.1.2 k hm).1.keep hk, (h.2.2.1.2 k hm).2.keep hk⟩⟩, ⟨h.2.2.2.1.keep hk, fun k hm => stsOk.keep (h.2.2.2.2 k hm) hk⟩⟩
theorem Pg.ok.mono {w : World} {F G : Nat → Prop} {p : Pg} (h : p.ok w F) (hs : ∀ g, F g → g < w.heap.size → G g) : p.ok w G :=
  ⟨⟨h.1.1.mono hs, fun k hm => nmsOk.mono (h.1.2 k hm) hs⟩, h.2.1.mono hs, ⟨h.2.2.1.1.mono hs, fun k hm => ⟨(h.2.2.1.2 k hm).1.mono hs, (h.2.2.1.2 k hm).2.mono hs⟩⟩, ⟨h.2.2.2.1.mono hs, fun k hm => stsOk.mono (h.2.2.2.2 k hm) hs⟩⟩
theorem Pg.ok.kept {w w' : World} {F : Nat → Prop} {p : Pg} (h : p.ok w F) (k : Below w.heap.size w w') : p.ok w' F := h.keep (fun g _ hg => k.block g hg)

/-- The same, but for places. -/
def Ex.same (a b : Ex) : Bool := match a with
  | ⟨op, bin, n, tk, tr, nm, kids, _, _, _⟩ => op == b.op && (bin == b.bin && (n == b.n && ((tk == b.tk && tr.toList == b.tr.toList) && (nm.toList == b.nm.toList && eqL (fun (x : { x // x ∈ kids }) (y : Ex) => have := List.sizeOf_lt_of_mem x.2; x.1.same y) kids.attach b.kids))))
theorem eqL_attach {α β : Type} (p : α → β → Bool) (l : List α) (m : List β) : eqL (fun (x : { x // x ∈ l }) y => p x.1 y) l.attach m = eqL p l m := by
  have : ∀ (k : List { x // x ∈ l }) (m : List β), eqL (fun (x : { x // x ∈ l }) y => p x.1 y) k m = eqL p (k.map (·.1)) m := by
    intro k
    induction k with
    | nil => intro m; cases m <;> rfl
    | cons a k ih => intro m; cases m with
      | nil => rfl
      | cons b m => simp only [eqL, List.map_cons, ih]
  rw [this, List.attach_map_subtype_val]
theorem Ex.same_eq (a b : Ex) : a.same b = (a.op == b.op && (a.bin == b.bin && (a.n == b.n && ((a.tk == b.tk && a.tr.toList == b.tr.toList) && (a.nm.toList == b.nm.toList && eqL Ex.same a.kids b.kids))))) := by
  cases a
  rw [Ex.same]
  simp only [eqL_attach]

def Pl.same (a b : Pl) : Bool := a.op == b.op && (a.base.toList == b.base.toList && (a.field.toList == b.field.toList && a.index.same b.index))
def Rt.same (a b : Rt) : Bool := a.op == b.op && (a.nm.toList == b.nm.toList && (a.e.same b.e && a.place.same b.place))
def St.same (a b : St) : Bool := match a with
  | ⟨op, nm, right, place, e, n, args, _, body, _, els, _, _, _⟩ => op == b.op && (nm.toList == b.nm.toList && (n == b.n && (right.same b.right && (place.same b.place && (e.same b.e && (eqL Ex.same args b.args && (eqL (fun (x : { x // x ∈ body }) (y : St) => have := List.sizeOf_lt_of_mem x.2; x.1.same y) body.attach b.body && eqL (fun (x : { x // x ∈ els }) (y : St) => have := List.sizeOf_lt_of_mem x.2; x.1.same y) els.attach b.els)))))))
theorem St.same_eq (a b : St) : a.same b = (a.op == b.op && (a.nm.toList == b.nm.toList && (a.n == b.n && (a.right.same b.right && (a.place.same b.place && (a.e.same b.e && (eqL Ex.same a.args b.args && (eqL St.same a.body b.body && eqL St.same a.els b.els)))))))) := by
  cases a
  rw [St.same]
  simp only [eqL_attach]
def Nm.same (a b : Nm) : Bool := a.nm.toList == b.nm.toList && (a.tk == b.tk && a.tr.toList == b.tr.toList)
def Rc.same (a b : Rc) : Bool := a.nm.toList == b.nm.toList && eqL Nm.same a.fields b.fields
def Fn.same (a b : Fn) : Bool := a.nm.toList == b.nm.toList && (eqL Nm.same a.params b.params && eqL St.same a.body b.body)
def Th.same (a b : Th) : Bool := eqL St.same a.body b.body
def Pg.same (a b : Pg) : Bool := eqL Rc.same a.recs b.recs && (eqL Nm.same a.globs b.globs && (eqL Fn.same a.funs b.funs && eqL Th.same a.threads b.threads))
end Go.Proofs.Ytfdfeiempeciiaa
