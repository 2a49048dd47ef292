/- Sets within others, as numbers. -/
import Derived.Test.YtkdpcaoocmbbhaaDoorM13
import Derived.Test.YtkdpcaoocmbbhaaDoorM09
namespace Go.Proofs.YtkdpcaoocmbbhaaDoor
open Go.ChangeShapes Go.WideShapes Go.ChangeAt Go.RowKit Go.Deep
set_option linter.unusedVariables false
set_option linter.unusedSimpArgs false

/-- Numbers within numbers, one by one. -/
def Rel2 (l m : List Nat) : Prop := l.length = m.length ∧ ∀ q, Sub (l.getD q 0) (m.getD q 0)
theorem Rel2.refl (l : List Nat) : Rel2 l l := ⟨rfl, fun q => Sub.refl _⟩
theorem getD_app (l m : List Nat) (q : Nat) : (l ++ m).getD q 0 = if q < l.length then l.getD q 0 else m.getD (q - l.length) 0 := by
  simp only [List.getD]
  split
  · rename_i h; rw [List.getElem?_append_left h]
  · rename_i h; rw [List.getElem?_append_right (by omega)]
theorem Rel2.append {l m l' m' : List Nat} (h : Rel2 l m) (k : Rel2 l' m') : Rel2 (l ++ l') (m ++ m') := by
  refine ⟨by rw [List.length_append, List.length_append, h.1, k.1], fun q => ?_⟩
  rw [getD_app, getD_app, h.1]
  split
  · exact h.2 q
  · exact k.2 _
theorem Rel2.range {f g : Nat → List Nat} (h : ∀ k, Rel2 (f k) (g k)) (n : Nat) : Rel2 ((List.range n).flatMap f) ((List.range n).flatMap g) := by
  induction n with
  | zero => exact Rel2.refl _
  | succ n ih => rw [range_flat, range_flat]; exact ih.append (h n)
theorem flat_less {T R : List (List Nat)} (hs : shp T = shp R) (h : LeR T R) (nT nS : Nat) : Rel2 (flatR nT nS T) (flatR nT nS R) := by
  have hl : ∀ r, (T.getD r []).length = (R.getD r []).length := fun r => by rw [row_len, row_len, hs]
  have row : ∀ r, Rel2 (T.getD r []) (R.getD r []) := fun r => ⟨hl r, fun q => h r q⟩
  have rw1 : ∀ r, Rel2 (rowL T r) (rowL R r) := fun r => by
    have : Rel2 ([(T.getD r []).length] ++ T.getD r []) ([(R.getD r []).length] ++ R.getD r []) := by
      rw [hl]
      exact (Rel2.refl _).append (row r)
    exact this
  unfold flatR flatB flatA
  rw [hl]
  exact ((((Rel2.refl _).append (row nT)).append (Rel2.range rw1 nT)).append (Rel2.range (fun k => rw1 _) nS))
theorem andnot0 {a b : Nat} (ha : a < 2 ^ 64) (hb : b < 2 ^ 64) (h : Sub a b) : bits .andNot .u64 (a : Int) (b : Int) = 0 := by
  rw [p64] at ha hb
  show IntKind.u64.wrap ((BitVec.ofInt 64 (a : Int) &&& ~~~ BitVec.ofInt 64 (b : Int)).toNat : Int) = _
  have e : BitVec.ofInt 64 (a : Int) &&& ~~~ BitVec.ofInt 64 (b : Int) = 0#64 := by
    apply BitVec.eq_of_getLsbD_eq
    intro i hi
    rw [BitVec.getLsbD_and, BitVec.getLsbD_not]
    have e1 : (BitVec.ofInt 64 (a : Int)).getLsbD i = a.testBit i := by
      rw [← BitVec.testBit_toNat, ofInt_u64 a ha]
    have e2 : (BitVec.ofInt 64 (b : Int)).getLsbD i = b.testBit i := by
      rw [← BitVec.testBit_toNat, ofInt_u64 b hb]
    rw [e1, e2]
    cases q : a.testBit i
    · simp
    · rw [h i q]; simp
  rw [e]
  rfl
end Go.Proofs.YtkdpcaoocmbbhaaDoor
