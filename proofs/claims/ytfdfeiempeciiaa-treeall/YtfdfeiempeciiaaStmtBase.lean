/- What the maker's stmt works with. -/
import Derived.Test.YtfdfeiempeciiaaRight
import Derived.Test.YtfdfeiempeciiaaNames
namespace Go.Proofs.Ytfdfeiempeciiaa
open Go.ChangeShapes Go.WideShapes Go.ChangeAt Go.RowKit
set_option linter.unusedVariables false

/-- A statement that was made; a row of them. -/
def StOut (w w' : World) (r : Value) (b : St) : Prop := ∃ s : St, r = s.val ∧ s.ok w' (fun g => w.heap.size ≤ g) ∧ s.bare = b ∧ s.right.e.tr.toList ≠ [122]
def RowOut (w w' : World) (r : Value) (b : List St) : Prop :=
  ∃ l : List St, w'.ownsRow w.heap.size 52 58 r l.length (l.flatMap St.cells) ∧ l.length ≤ 1000 ∧ (∀ s ∈ l, s.ok w' (fun g => w.heap.size ≤ g ∧ r.ownBlock ≠ some g)) ∧ l.map St.bare = b ∧ ∀ s ∈ l, s.right.e.tr.toList ≠ [122]

/-- While a statement is made: the result's block, and that of the variable. -/
structure SAt (w wr : World) (M : Nat) (v : Value) (N : List Int) (l i S : Nat) (s : St) : Prop where
  made : Made w M v N l i wr
  res : VarAt wr w.heap.size St.zero.cells 52
  var : VarAt wr S s.cells 52
  gt : w.heap.size < S
  old : M < w.heap.size

theorem SAt.call {w wr w2 : World} {M : Nat} {v : Value} {N : List Int} {l i l' i' S : Nat} {s : St} (h : SAt w wr M v N l i S s) (k : Made wr M v N l' i' w2) : SAt w w2 M v N l' i' S s :=
  ⟨made_trans h.made k, h.res.touch k.1 (by have := h.old; omega), h.var.touch k.1 (by have := h.old; have := h.gt; omega), h.gt, h.old⟩
theorem SAt.store {w wr w2 : World} {M : Nat} {v : Value} {N : List Int} {l i S : Nat} {s s' : St} (h : SAt w wr M v N l i S s) (hv : VarAt w2 S s'.cells 52) (k : Touch (fun g => g = S) wr w2) : SAt w w2 M v N l i S s' :=
  ⟨h.made.res k (by have := h.gt; omega) h.old, h.res.touch k (by have := h.gt; omega), hv, h.gt, h.old⟩
theorem SAt.alloc {w wr : World} {M : Nat} {v : Value} {N : List Int} {l i S : Nat} {s : St} (h : SAt w wr M v N l i S s) (o : Obj) : SAt w (wr.alloc o) M v N l i S s := ⟨h.made.new o, h.res.kept ((Below.refl _ _).alloc (Nat.le_refl _) _), h.var.kept ((Below.refl _ _).alloc (Nat.le_refl _) _), h.gt, h.old⟩
/-- What stays, where only blocks up to S turn. -/
theorem Touch.above {T : Nat → Prop} {S : Nat} {a b : World} (h : Touch T a b) (hT : ∀ g, T g → g ≤ S) : ∀ g, S < g → g < a.heap.size → b.heap[g]? = a.heap[g]? := fun g hg hl => h.block g hl (fun ht => by have := hT g ht; omega)

theorem info9 : (Try.prog.info? 9).map (·.size) = some 1 := by kernel_rfl
theorem info3 : (Try.prog.info? 3).map (·.size) = some 1 := by kernel_rfl
theorem info35 : (Try.prog.info? 35).map (·.size) = some 1 := by kernel_rfl
theorem info44 : (Try.prog.info? 44).map (·.size) = some 1 := by kernel_rfl
theorem St.splice_all (e z : St) : splice z.cells 0 e.cells = e.cells := splice_full _ _ (by rw [St.len, St.len])
theorem St.set_nm (s : St) (x : ByteArray) : s.cells.set 1 (.string x) = { s with nm := x }.cells := rfl
theorem St.set_n (s : St) (x : Int) : s.cells.set 52 (.int .i64 x) = { s with n := x }.cells := rfl
theorem St.set_body (s : St) (x : Value) (l : List St) : s.cells.set 54 x = { s with bv := x, body := l }.cells := rfl
theorem St.set_els (s : St) (x : Value) (l : List St) : s.cells.set 55 x = { s with ev := x, els := l }.cells := rfl
theorem St.set_args (s : St) (x : Value) (l : List Ex) : s.cells.set 53 x = { s with av := x, args := l }.cells := rfl
theorem St.set_right (s : St) (r : Rt) : splice s.cells 2 r.cells = { s with right := r }.cells := by
  rw [splice_eq _ _ _ (by rw [St.len, Rt.len]; omega), Rt.len]
  rfl
theorem St.set_place (s : St) (r : Pl) : splice s.cells 29 r.cells = { s with place := r }.cells := by
  rw [splice_eq _ _ _ (by rw [St.len, Pl.len]; omega), Pl.len]
  rfl
theorem St.set_e (s : St) (r : Ex) : splice s.cells 43 r.cells = { s with e := r }.cells := by
  rw [splice_eq _ _ _ (by rw [St.len, Ex.len]; omega), Ex.len]
  rfl

theorem st_one {s : St} (h1 : s.right.e.kv.oneCell' = true) (h2 : s.right.place.index.kv.oneCell' = true) (h3 : s.place.index.kv.oneCell' = true) (h4 : s.e.kv.oneCell' = true) (h5 : s.av.oneCell' = true) (h6 : s.bv.oneCell' = true) (h7 : s.ev.oneCell' = true) : ∀ u ∈ s.cells, u.oneCell' = true := by
  intro u hu
  simp only [St.cells, Ex.cells, List.mem_append, List.mem_cons, List.not_mem_nil, or_false] at hu
  rcases hu with (rfl | rfl) | hu | hu | (rfl | rfl | rfl | rfl | rfl | rfl | rfl | rfl | rfl) | rfl | rfl | rfl | rfl | rfl | rfl
  all_goals first | rfl | exact rt_one h1 h2 u hu | exact pl_one h3 u hu | exact h4 | exact h5 | exact h6 | exact h7
theorem ex_one {e : Ex} (h : e.kv.oneCell' = true) : ∀ u ∈ e.cells, u.oneCell' = true := by
  intro u hu
  simp only [Ex.cells, List.mem_cons, List.not_mem_nil, or_false] at hu
  rcases hu with rfl | rfl | rfl | rfl | rfl | rfl | rfl | rfl | rfl
  all_goals first | rfl | exact h
end Go.Proofs.Ytfdfeiempeciiaa
