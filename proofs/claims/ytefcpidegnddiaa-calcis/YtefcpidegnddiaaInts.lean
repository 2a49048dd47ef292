/- Contracts of the whole-number calls of package num, and of the document's answers to them, over the landed code. No conditions but that the numbers are of 64 bits. -/
import Derived.Test.YtefcpidegnddiaaRows
import Derived.WalkKit
import Derived.ProofKit
import Derived.OpenShut
namespace Go.Proofs.Ytefcpidegnddiaa
open Go.ChangeShapes Go.WideShapes Go.ChangeAt Go.RowKit

set_option maxHeartbeats 400000

theorem truth_any (b : Bool) (w : World) : Calls Try.prog 41 #[.bool b] w fun e w' => e = .returned (.int .i64 (if b then 1 else 0)) ∧ w' = w := by
  cases b
  · go_enter Try.func41, Try.ntmps41
    go_wp2
    go_ret
    exact ⟨rfl, rfl⟩
  · go_enter Try.func41, Try.ntmps41
    go_wp2
    go_ret
    exact ⟨rfl, rfl⟩

theorem yes_any (b : Bool) (w : World) : Calls Try.prog 35 #[.bool b] w fun e w' => e = .returned (.int .i64 (if b then 1 else 0)) ∧ w' = w := by
  cases b
  · go_enter Try.func35, Try.ntmps35
    go_wp2
    go_ret
    exact ⟨rfl, rfl⟩
  · go_enter Try.func35, Try.ntmps35
    go_wp2
    go_ret
    exact ⟨rfl, rfl⟩

/-- What 'holds' answers of whole numbers. -/
def holdsI (op a b : Int) : Bool := if op == 5 then a == b else if op == 6 then a != b else if op == 7 then decide (a < b) else if op == 8 then decide (a ≤ b) else false

theorem holds_any (op a b : Int) (w : World) : Calls Try.prog 44 #[.int .i64 op, .int .i64 a, .int .i64 b] w fun e w' => e = .returned (.bool (holdsI op a b)) ∧ w' = w := by
  go_enter Try.func44, Try.ntmps44
  go_wp2
  all_goals
    go_ret
    exact ⟨by simp [holdsI, *], rfl⟩

/-- What 'divide' answers. -/
def divI (op a b : Int) : Int := if b == 0 then 0 else if op == 3 then wrap64 (a.tdiv b) else a.tmod b

theorem divide_any (op a b : Int) (w : World) : Calls Try.prog 43 #[.int .i64 op, .int .i64 a, .int .i64 b] w fun e w' => e = .returned (.tuple #[.int .i64 (divI op a b), .bool (b != 0)]) ∧ w' = w := by
  by_cases h : b = 0
  · have h' : (b == 0) = true := by simp [h]
    clear h
    go_enter Try.func43, Try.ntmps43
    go_wp2
    go_ret2
    exact ⟨by simp [divI, h', bne], rfl⟩
  · have h' : (b == 0) = false := by simp [h]
    go_enter Try.func43, Try.ntmps43
    go_wp2
    all_goals
      go_ret2
      exact ⟨by simp [divI, bne, *], rfl⟩

/-- What 'Int' answers: the number. -/
def intI (op a b : Int) : Int := if op == 0 then wrap64 (a + b) else if op == 1 then wrap64 (a - b) else if op == 2 then wrap64 (a * b) else if op == 3 then divI 3 a b else if op == 4 then divI 4 a b else if holdsI op a b then 1 else 0
/-- What 'Int' answers: is it one? -/
def intB (op b : Int) : Bool := if op == 3 then b != 0 else if op == 4 then b != 0 else true

theorem int_any (op a b : Int) (w : World) : Calls Try.prog 33 #[.int .i64 op, .int .i64 a, .int .i64 b] w fun e w' => e = .returned (.tuple #[.int .i64 (intI op a b), .bool (intB op b)]) ∧ w' = w := by
  by_cases h3 : op = 3
  · subst h3
    go_enter Try.func33, Try.ntmps33
    go_wp2_with (go_at_call 43; refine (divide_any _ _ _ _).mono ?_; rintro e w' ⟨rfl, rfl⟩)
    go_ret2
    exact ⟨by simp [intI, intB], rfl⟩
  by_cases h4 : op = 4
  · subst h4
    go_enter Try.func33, Try.ntmps33
    go_wp2_with (go_at_call 43; refine (divide_any _ _ _ _).mono ?_; rintro e w' ⟨rfl, rfl⟩)
    go_ret2
    exact ⟨by simp [intI, intB], rfl⟩
  · have h3' : (op == 3) = false := by simp [h3]
    have h4' : (op == 4) = false := by simp [h4]
    clear h3 h4
    go_enter Try.func33, Try.ntmps33
    go_wp2_with (first | (go_at_call 44; refine (holds_any _ _ _ _).mono ?_; rintro e w' ⟨rfl, rfl⟩) | (go_at_call 41; refine (truth_any _ _).mono ?_; rintro e w' ⟨rfl, rfl⟩))
    all_goals
      go_ret2
      exact ⟨by simp [intI, intB, *], rfl⟩

theorem wrap64_is (n : Int) (h : -9223372036854775808 ≤ n ∧ n ≤ 9223372036854775807) : wrap64 n = n := by unfold wrap64; omega

theorem tdiv_lo (a b : Int) (ha : -9223372036854775808 ≤ a) (ha' : a ≤ 9223372036854775807) (hb : b ≠ -1) (h0 : b ≠ 0) : -9223372036854775808 ≤ a.tdiv b ∧ a.tdiv b ≤ 9223372036854775807 := by
  have h : (a.tdiv b).natAbs = a.natAbs / b.natAbs := Int.natAbs_tdiv a b
  have h1 : a.natAbs / b.natAbs ≤ a.natAbs := Nat.div_le_self _ _
  by_cases hb1 : b = 1
  · subst hb1
    rw [Int.tdiv_one]
    omega
  · have h2 : a.natAbs / b.natAbs ≤ a.natAbs / 2 := Nat.div_le_div_left (by omega) (by omega)
    omega

theorem sub_tdiv (a b : Int) : a - a.tdiv b * b = a.tmod b := by
  have := Int.tdiv_mul_add_tmod a b
  omega

theorem tdiv_mul_in (a b : Int) (ha : -9223372036854775808 ≤ a) (ha' : a ≤ 9223372036854775807) : -9223372036854775808 ≤ a.tdiv b * b ∧ a.tdiv b * b ≤ 9223372036854775807 := by
  have h3 := Int.tdiv_mul_add_tmod a b
  have h4 : (a.tmod b).natAbs = a.natAbs % b.natAbs := Int.natAbs_tmod a b
  have h5 : a.natAbs % b.natAbs ≤ a.natAbs := Nat.mod_le _ _
  by_cases hp : 0 ≤ a
  · have := Int.tmod_nonneg b hp
    omega
  · have := Int.tmod_nonneg b (a := -a) (by omega)
    rw [Int.neg_tmod] at this
    omega

theorem rem_by (a b : Int) (ha : -9223372036854775808 ≤ a) (ha' : a ≤ 9223372036854775807) (hb : b ≠ -1) (h0 : b ≠ 0) : wrap64 (a - wrap64 (wrap64 (a.tdiv b) * b)) = a.tmod b := by
  have e2 := tdiv_mul_in a b ha ha'
  rw [wrap64_is _ (tdiv_lo a b ha ha' hb h0), wrap64_is _ e2, sub_tdiv, wrap64_is]
  have h4 : (a.tmod b).natAbs = a.natAbs % b.natAbs := Int.natAbs_tmod a b
  have h5 : a.natAbs % b.natAbs ≤ a.natAbs := Nat.mod_le _ _
  have h3 := Int.tdiv_mul_add_tmod a b
  by_cases hp : 0 ≤ a
  · have := Int.tmod_nonneg b hp
    omega
  · have := Int.tmod_nonneg b (a := -a) (by omega)
    rw [Int.neg_tmod] at this
    omega

theorem rint_any (op a b : Int) (w : World) (ha : -9223372036854775808 ≤ a) (ha' : a ≤ 9223372036854775807) (hb : -9223372036854775808 ≤ b) (hb' : b ≤ 9223372036854775807) :
    Calls Try.prog 27 #[.int .i64 op, .int .i64 a, .int .i64 b] w fun e w' => e = .returned (.tuple #[.int .i64 (intI op a b), .bool (intB op b)]) ∧ w' = w := by
  by_cases h3 : op = 3
  · subst h3
    by_cases h0 : b = 0
    · subst h0
      go_enter Try.func27, Try.ntmps27
      go_wp2
      go_ret2
      exact ⟨by simp [intI, intB, divI], rfl⟩
    by_cases h1 : b = -1
    · subst h1
      go_enter Try.func27, Try.ntmps27
      go_wp2
      go_ret2
      exact ⟨by simp [intI, intB, divI], rfl⟩
    · have h0' : (b == 0) = false := by simp [h0]
      have h1' : (b == -1) = false := by simp [h1]
      go_enter Try.func27, Try.ntmps27
      go_wp2
      go_ret2
      exact ⟨by simp [intI, intB, divI, h0', h0], rfl⟩
  by_cases h4 : op = 4
  · subst h4
    by_cases h0 : b = 0
    · subst h0
      go_enter Try.func27, Try.ntmps27
      go_wp2
      go_ret2
      exact ⟨by simp [intI, intB, divI], rfl⟩
    by_cases h1 : b = -1
    · subst h1
      go_enter Try.func27, Try.ntmps27
      go_wp2
      go_ret2
      exact ⟨by simp [intI, intB, divI], rfl⟩
    · have h0' : (b == 0) = false := by simp [h0]
      have h1' : (b == -1) = false := by simp [h1]
      go_enter Try.func27, Try.ntmps27
      go_wp2
      go_ret2
      exact ⟨by simp [intI, intB, divI, h0', h0, rem_by a b ha ha' h1 h0], rfl⟩
  · have h3' : (op == 3) = false := by simp [h3]
    have h4' : (op == 4) = false := by simp [h4]
    clear h3 h4
    go_enter Try.func27, Try.ntmps27
    go_wp2_with (go_at_call 35; refine (yes_any _ _).mono ?_; rintro e w' ⟨rfl, rfl⟩)
    all_goals
      go_ret2
      exact ⟨by simp [intI, intB, holdsI, *], rfl⟩
end Go.Proofs.Ytefcpidegnddiaa
