/- The document's Has. -/
import Derived.Test.YtdpbapoahfggeaaDoorTz
namespace Go.Proofs.YtdpbapoahfggeaaDoor
open Go.ChangeShapes Go.WideShapes Go.ChangeAt Go.RowKit
set_option linter.unusedVariables false
set_option linter.unusedSimpArgs false

theorem shr_bit (a k : Nat) : (((a : Int) / 2 ^ k).tmod 2 == 1) = a.testBit k := by
  have e : ((a : Int) / 2 ^ k) = ((a / 2 ^ k : Nat) : Int) := by
    rw [Int.natCast_ediv, Int.natCast_pow]; rfl
  rw [e, Nat.testBit_eq_decide_div_mod_eq]
  generalize a / 2 ^ k = x
  rw [show ((x : Int).tmod 2) = ((x % 2 : Nat) : Int) by simp [Int.tmod_eq_emod_of_nonneg]]
  rw [Bool.eq_iff_iff]
  simp only [beq_iff_eq, decide_eq_true_eq]
  omega
def hasB (a : Nat) (k : Int) : Bool := decide (0 ≤ k ∧ k < 64) && a.testBit k.toNat
theorem hasB_nat (a k : Nat) (h : k < 64) : hasB a (k : Int) = a.testBit k := by
  unfold hasB
  rw [decide_eq_true (by omega), Bool.true_and, Int.toNat_natCast]

set_option maxHeartbeats 1000000 in
theorem hasS_any (a : Nat) (ha : a < 2 ^ 64) (k : Int) (w : World) : Calls Tryd.prog 11 #[.int .u64 (a : Int), .int .i64 k] w fun e w' => e = .returned (.bool (hasB a k)) ∧ w' = w := by
  go_enter Tryd.func11, Tryd.ntmps11
  go_wp2
  all_goals
    go_ret
    refine ⟨retB ?_, rfl⟩
    unfold hasB
  · rw [shr_bit, decide_eq_true (by omega), Bool.true_and]
  · rw [decide_eq_false (by omega), Bool.false_and]
  · rw [decide_eq_false (by omega), Bool.false_and]

end Go.Proofs.YtdpbapoahfggeaaDoor
