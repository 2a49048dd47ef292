/- Rows of items as cells; the laws' alive. -/
import Derived.Test.YtefcpidegnddiaaEval
namespace Go.Proofs.Ytefcpidegnddiaa
open Go.ChangeShapes Go.WideShapes Go.ChangeAt Go.RowKit
set_option linter.unusedVariables false

/-- Items as cells. -/
def flat : List Itm → List Value
  | [] => []
  | x :: l => .int .i64 x.op :: .int .i64 x.bin :: .int .u64 x.n :: flat l

theorem flat_len (l : List Itm) : (flat l).length = l.length * 3 := by
  induction l with
  | nil => rfl
  | cons x l ih => simp only [flat, List.length_cons, ih]; omega

theorem flat_app (l m : List Itm) : flat (l ++ m) = flat l ++ flat m := by
  induction l with
  | nil => rfl
  | cons x l ih => simp only [flat, List.cons_append, ih]

theorem flat_get (l : List Itm) : ∀ i, i < l.length → (flat l)[i * 3]? = some (.int .i64 (l.getD i Itm.blank).op) ∧ (flat l)[i * 3 + 1]? = some (.int .i64 (l.getD i Itm.blank).bin) ∧ (flat l)[i * 3 + 2]? = some (.int .u64 (l.getD i Itm.blank).n) := by
  induction l with
  | nil => intro i hi; simp at hi
  | cons x l ih =>
    intro i hi
    cases i with
    | zero => exact ⟨rfl, rfl, rfl⟩
    | succ i =>
      have := ih i (by simpa using hi)
      have e0 : (i + 1) * 3 = i * 3 + 1 + 1 + 1 := by omega
      have e1 : (i + 1) * 3 + 1 = i * 3 + 1 + 1 + 1 + 1 := by omega
      have e2 : (i + 1) * 3 + 2 = i * 3 + 2 + 1 + 1 + 1 := by omega
      refine ⟨?_, ?_, ?_⟩
      · rw [e0]; simp only [flat, List.getElem?_cons_succ, List.getD_cons_succ]; exact this.1
      · rw [e1]; simp only [flat, List.getElem?_cons_succ, List.getD_cons_succ]; exact this.2.1
      · rw [e2]; simp only [flat, List.getElem?_cons_succ, List.getD_cons_succ]; exact this.2.2

def AllOk (l : List Itm) : Prop := ∀ x ∈ l, x.ok

theorem getD_mem {α : Type} (d : α) (l : List α) (i : Nat) (h : i < l.length) : l.getD i d ∈ l := by
  have : l.getD i d = l[i] := by simp [List.getD, h]
  rw [this]; exact List.getElem_mem h

theorem items_of {w : World} {b : Nat} {l : List Itm} (hb : b < w.heap.size) (h : ∀ j u, (flat l)[j]? = some u → w.cell? ⟨b, j, none⟩ = some u) (ok : AllOk l) : ItemsAt w (some ⟨b, 0, none⟩) l := by
  intro i hi
  obtain ⟨g0, g1, g2⟩ := flat_get l i hi
  refine ⟨b, 0, rfl, hb, ⟨?_, ?_, ?_⟩, ok _ (getD_mem _ _ _ hi)⟩
  · rw [Nat.zero_add]; exact h _ _ g0
  · rw [Nat.zero_add]; exact h _ _ g1
  · rw [Nat.zero_add]; exact h _ _ g2

theorem items_new (w : World) (l : List Itm) (ok : AllOk l) (cs : Array Value) (hc : cs.toList = flat l) : ItemsAt (w.alloc (.cells cs 36)) (some ⟨w.heap.size, 0, none⟩) l :=
  items_of (by simp) (fun j u hj => new_cell _ _ _ _ _ (by rw [← hc] at hj; simpa using hj)) ok

theorem ev1N : evN [5] [] [⟨1, 0, 2⟩, ⟨2, 0, 0⟩, ⟨8, 0, 0⟩] = 7 := by decide +kernel
theorem ev1T : evT [5] [] [⟨1, 0, 2⟩, ⟨2, 0, 0⟩, ⟨8, 0, 0⟩] = 0 := by decide +kernel
theorem ev2N : evN [] [] [⟨1, 0, 2⟩, ⟨1, 0, 0⟩, ⟨8, 3, 0⟩] = 0 := by decide +kernel
theorem ev2T : evT [] [] [⟨1, 0, 2⟩, ⟨1, 0, 0⟩, ⟨8, 3, 0⟩] = 1 := by decide +kernel

set_option maxRecDepth 100000 in
set_option maxHeartbeats 1000000 in
theorem alive_any (w : World) : Calls Try.prog 8 #[] w fun e w' => e = .returned (.bool true) ∧ Below w.heap.size w w' := by
  have hB1 := (Below.refl w.heap.size w).alloc (Nat.le_refl _) (.cells #[.int .u64 5] 26)
  have hB2 := hB1.alloc hB1.size (.cells #[.int .i64 1, .int .i64 0, .int .u64 2, .int .i64 2, .int .i64 0, .int .u64 0, .int .i64 8, .int .i64 0, .int .u64 0] 36)
  have hS1 : NumsAt .u64 (w.alloc (.cells #[.int .u64 5] 26)) (some ⟨w.heap.size, 0, none⟩) [5] := by
    intro i hi
    have : i = 0 := by simpa using hi
    subst this
    exact ⟨w.heap.size, 0, rfl, by simp, new_cell _ _ _ _ _ rfl, by decide⟩
  have hS2 := hS1.kept ((Below.refl _ _).alloc (Nat.le_refl _) (.cells #[.int .i64 1, .int .i64 0, .int .u64 2, .int .i64 2, .int .i64 0, .int .u64 0, .int .i64 8, .int .i64 0, .int .u64 0] 36))
  have hX2 := items_new (w.alloc (.cells #[.int .u64 5] 26)) [⟨1, 0, 2⟩, ⟨2, 0, 0⟩, ⟨8, 0, 0⟩] (by intro x hx; simp at hx; rcases hx with rfl | rfl | rfl <;> simp [Itm.ok]) #[.int .i64 1, .int .i64 0, .int .u64 2, .int .i64 2, .int .i64 0, .int .u64 0, .int .i64 8, .int .i64 0, .int .u64 0] rfl
  have e1 : (w.alloc (.cells #[.int .u64 5] 26)).heap.size = w.heap.size + 1 := by simp
  rw [e1] at hX2
  have C := hid (eval_any (some ⟨w.heap.size + 1, 0, none⟩) (some ⟨w.heap.size, 0, none⟩) none 3 3 1 1 0 0 _ _ [] _ rfl rfl rfl hX2 hS2 (NumsAt.nil _ _ _) (by omega) (by omega) (by omega))
  rw [ev1N, ev1T] at C
  replace hB2 := hid hB2
  have C2 := hid (fun W : World => items_new W [⟨1, 0, 2⟩, ⟨1, 0, 0⟩, ⟨8, 3, 0⟩] (by intro x hx; simp at hx; rcases hx with rfl | rfl | rfl <;> simp [Itm.ok]) #[.int .i64 1, .int .i64 0, .int .u64 2, .int .i64 1, .int .i64 0, .int .u64 0, .int .i64 8, .int .i64 3, .int .u64 0] rfl)
  have D := hid (fun W : World => eval_any (some ⟨W.heap.size, 0, none⟩) none none 3 3 0 0 0 0 _ [] [] _ rfl rfl rfl (C2.out W) (NumsAt.nil _ _ _) (NumsAt.nil _ _ _) (by omega) (by omega) (by omega))
  simp only [ev2N, ev2T] at D
  clear hB1 hS1 hS2 hX2 C2 e1
  go_enter Try.func8, Try.ntmps8
  go_wp2_with fail
  refine Calls.mono C.out ?_
  rintro e w1 ⟨rfl, hb1⟩
  have B1 := hid (hB2.out.trans (hb1.mono hB2.out.size))
  clear hb1 C hB2
  go_wp2_with fail
  refine Calls.mono (D.out w1) ?_
  rintro e w2 ⟨rfl, hb2⟩
  have B2 := hid (B1.out.alloc B1.out.size (.cells #[.int .i64 1, .int .i64 0, .int .u64 2, .int .i64 1, .int .i64 0, .int .u64 0, .int .i64 8, .int .i64 3, .int .u64 0] 36))
  have B3 := hid (B2.out.trans (hb2.mono B2.out.size))
  clear hb2 D B1 B2
  go_wp2
  go_ret
  exact ⟨rfl, B3.out⟩
end Go.Proofs.Ytefcpidegnddiaa
