/- Plain facts on what a real is as a whole number (no Go in them). No conditions but those typed. -/
import Derived.Test.YtefcpidegnddiaaBits
namespace Go.Proofs.Ytefcpidegnddiaa
open Ieee

/-- The sign, by the bits. -/
def negB (x : Nat) : Bool := x / 9223372036854775808 % 2 == 1
/-- How far the point is from the least place. -/
def ptN : Nat := 1074
/-- The magnitude without what is behind the point. -/
def wholeN (r : Nat) : Nat := valN r / 2 ^ ptN
/-- What 'Trunc' answers. -/
def truncZ (x : Nat) : Int :=
  if nanB x then 0
  else if x % 9223372036854775808 < 4890909195324358656 then (if negB x then -(wholeN (x % 9223372036854775808) : Int) else (wholeN (x % 9223372036854775808) : Int))
  else if negB x then -9223372036854775808 else 9223372036854775807

theorem cut_zero (s : Bool) (n drop : Nat) : Toward.zero.cut s n drop = n / 2 ^ drop := by
  unfold Toward.cut
  simp only [Bool.toNat_false, Nat.add_zero, Nat.one_shiftLeft]
  by_cases h : drop ≤ n.log2 + 2
  · rw [Nat.min_eq_left h]
  · rw [Nat.min_eq_right (by omega)]
    have h1 : n < 2 ^ (n.log2 + 1) := Nat.lt_log2_self
    have h2 : 2 ^ (n.log2 + 1) ≤ 2 ^ (n.log2 + 2) := Nat.pow_le_pow_right (by decide) (by omega)
    have h3 : 2 ^ (n.log2 + 1) ≤ 2 ^ drop := Nat.pow_le_pow_right (by decide) (by omega)
    rw [Nat.div_eq_of_lt (by omega), Nat.div_eq_of_lt (by omega)]

theorem whole_cut (r : Nat) : magN r <<< (-1074 + (upN r : Int)).toNat / 2 ^ (-(-1074 + (upN r : Int))).toNat = wholeN r := by
  unfold wholeN valN
  rw [Nat.shiftLeft_eq]
  have hp : ptN = 1074 := rfl
  generalize ptN = c at hp
  rcases Nat.le_total (upN r) c with h | h
  · rw [show (-1074 + (upN r : Int)).toNat = 0 by omega, show (-(-1074 + (upN r : Int))).toNat = c - upN r by omega]
    have e : (2 : Nat) ^ c = 2 ^ (c - upN r) * 2 ^ upN r := by rw [← Nat.pow_add]; congr 1; omega
    rw [e, Nat.mul_div_mul_right _ _ (Nat.two_pow_pos _), Nat.pow_zero, Nat.mul_one]
  · rw [show (-1074 + (upN r : Int)).toNat = upN r - c by omega, show (-(-1074 + (upN r : Int))).toNat = 0 by omega]
    have e : (2 : Nat) ^ upN r = 2 ^ (upN r - c) * 2 ^ c := by rw [← Nat.pow_add]; congr 1; omega
    rw [e, ← Nat.mul_assoc, Nat.mul_div_cancel _ (Nat.two_pow_pos _), Nat.pow_zero, Nat.div_one]

theorem val_top : valN 4890909195324358656 = 2 ^ 63 * 2 ^ ptN := by decide +kernel

theorem wholeN_lt (r : Nat) (h : r < 4890909195324358656) : wholeN r < 9223372036854775808 := by
  have h1 := valN_lt h
  rw [val_top] at h1
  unfold wholeN
  have := Nat.div_lt_of_lt_mul (m := valN r) (n := 2 ^ ptN) (k := 2 ^ 63) (by rw [Nat.mul_comm]; exact h1)
  omega

theorem whole_top : wholeN 4890909195324358656 = 9223372036854775808 := by decide +kernel

theorem toInt_num (x : Nat) (h : x % 9223372036854775808 < 9218868437227405312) :
    (FloatKind.f64.decode x).toInt .zero = some (if negB x then -(wholeN (x % 9223372036854775808) : Int) else (wholeN (x % 9223372036854775808) : Int)) := by
  unfold FloatKind.decode
  rw [read_num x h]
  simp only [Datum.toInt, Datum.integral, cut_zero, whole_cut, signed_eq, Nat.pow_zero, Nat.mul_one]
  rfl

/-- Of what isn't beyond the ends 'int' answers it, whole. -/
theorem conv_in (x : Nat) (hn : nanB x = false) (h1 : rankZ x < 4890909195324358656) (h2 : -4890909195324358656 ≤ rankZ x) :
    floatToIntVal .f64 x .i64 = some (truncZ x) := by
  simp only [nanB, decide_eq_false_iff_not] at hn
  have hr : x % 9223372036854775808 ≤ 4890909195324358656 := by
    unfold rankZ at h1 h2
    split at h1 <;> simp_all <;> omega
  unfold floatToIntVal
  rw [toInt_num x (by omega)]
  have hmin : IntKind.i64.min = -9223372036854775808 := by decide
  have hmax : IntKind.i64.max = 9223372036854775807 := by decide
  simp only [hmin, hmax]
  have hn' : nanB x = false := by simp [nanB]; omega
  by_cases hlt : x % 9223372036854775808 < 4890909195324358656
  · have hw := wholeN_lt _ hlt
    have e : truncZ x = if negB x then -(wholeN (x % 9223372036854775808) : Int) else (wholeN (x % 9223372036854775808) : Int) := by
      unfold truncZ; rw [hn', if_neg (by decide), if_pos hlt]
    rw [e]
    rw [if_pos]
    constructor <;> split <;> omega
  · have he : x % 9223372036854775808 = 4890909195324358656 := by omega
    have hneg : negB x = true := by
      unfold rankZ at h1
      unfold negB
      by_cases hh : (x / 9223372036854775808 % 2 == 1) = true
      · exact hh
      · rw [if_neg hh] at h1; omega
    have e : truncZ x = -9223372036854775808 := by
      unfold truncZ; rw [hn', if_neg (by decide), if_neg hlt, hneg, if_pos rfl]
    rw [e, he, whole_top, hneg, if_pos rfl]
    decide

theorem trunc_hi (x : Nat) (hn : nanB x = false) (h1 : 4890909195324358656 ≤ rankZ x) : truncZ x = 9223372036854775807 := by
  unfold rankZ at h1
  unfold truncZ negB
  rw [hn, if_neg (by decide)]
  by_cases hh : (x / 9223372036854775808 % 2 == 1) = true
  · rw [if_pos hh] at h1; omega
  · rw [if_neg hh] at h1
    rw [if_neg (by omega), if_neg hh]

theorem trunc_lo (x : Nat) (hn : nanB x = false) (h1 : rankZ x < -4890909195324358656) : truncZ x = -9223372036854775808 := by
  unfold rankZ at h1
  unfold truncZ negB
  rw [hn, if_neg (by decide)]
  by_cases hh : (x / 9223372036854775808 % 2 == 1) = true
  · rw [if_pos hh] at h1
    rw [if_neg (by omega), if_pos hh]
  · rw [if_neg hh] at h1; omega

theorem rank_hi : rankZ 4890909195324358656 = 4890909195324358656 := by decide
theorem rank_lo : rankZ 14114281232179134464 = -4890909195324358656 := by decide
theorem nan_hi : nanB 4890909195324358656 = false := by decide
theorem nan_lo : nanB 14114281232179134464 = false := by decide

theorem cmp_gt (a b : Int) : (some (compare a b) == some Ordering.gt) = decide (b < a) := by
  by_cases h : b < a
  · rw [Int.compare_eq_gt.2 h]; simp [h]
  · rcases Int.lt_or_eq_of_le (Int.not_lt.1 h) with h2 | h2
    · rw [Int.compare_eq_lt.2 h2]; simp [h]
    · rw [Int.compare_eq_eq.2 h2]; simp [h]
theorem cmp_lt (a b : Int) : (some (compare a b) == some Ordering.lt) = decide (a < b) := by
  by_cases h : a < b
  · rw [Int.compare_eq_lt.2 h]; simp [h]
  · rcases Int.lt_or_eq_of_le (Int.not_lt.1 h) with h2 | h2
    · rw [Int.compare_eq_gt.2 h2]; simp [h]
    · rw [Int.compare_eq_eq.2 h2.symm]; simp [h]
theorem cmp_eq (a b : Int) : (some (compare a b) == some Ordering.eq) = decide (a = b) := by
  by_cases h : a = b
  · rw [Int.compare_eq_eq.2 h]; simp [h]
  · rcases Int.lt_or_gt_of_ne h with h2 | h2
    · rw [Int.compare_eq_lt.2 h2]; simp [h]
    · rw [Int.compare_eq_gt.2 h2]; simp [h]

theorem mag_norm (r : Nat) (h : 1 ≤ r / 4503599627370496) : magN r = r % 4503599627370496 + 4503599627370496 ∧ upN r = r / 4503599627370496 - 1 := by
  unfold magN upN
  rw [if_neg (by omega), if_neg (by omega)]
  exact ⟨by omega, rfl⟩

theorem whole_right (r : Nat) (h : 1 ≤ r / 4503599627370496) (h1 : r / 4503599627370496 ≤ 1075) : wholeN r = (r % 4503599627370496 + 4503599627370496) / 2 ^ (1075 - r / 4503599627370496) := by
  obtain ⟨e1, e2⟩ := mag_norm r h
  unfold wholeN valN
  rw [e1, e2]
  have hp : ptN = 1074 := rfl
  generalize ptN = c at hp
  have e : (2 : Nat) ^ c = 2 ^ (1075 - r / 4503599627370496) * 2 ^ (r / 4503599627370496 - 1) := by rw [← Nat.pow_add]; congr 1; omega
  rw [e, Nat.mul_div_mul_right _ _ (Nat.two_pow_pos _)]

theorem whole_left (r : Nat) (h1 : 1075 ≤ r / 4503599627370496) : wholeN r = (r % 4503599627370496 + 4503599627370496) * 2 ^ (r / 4503599627370496 - 1075) := by
  obtain ⟨e1, e2⟩ := mag_norm r (by omega)
  unfold wholeN valN
  rw [e1, e2]
  have hp : ptN = 1074 := rfl
  generalize ptN = c at hp
  have e : (2 : Nat) ^ (r / 4503599627370496 - 1) = 2 ^ (r / 4503599627370496 - 1075) * 2 ^ c := by rw [← Nat.pow_add]; congr 1; omega
  rw [e, ← Nat.mul_assoc, Nat.mul_div_cancel _ (Nat.two_pow_pos _)]

theorem whole_small (r : Nat) (h : r / 4503599627370496 ≤ 1022) : wholeN r = 0 := by
  by_cases h0 : 1 ≤ r / 4503599627370496
  · rw [whole_right r h0 (by omega)]
    apply Nat.div_eq_of_lt
    have h2 : (2 : Nat) ^ 53 ≤ 2 ^ (1075 - r / 4503599627370496) := Nat.pow_le_pow_right (by decide) (by omega)
    omega
  · unfold wholeN valN magN upN
    rw [if_pos (by omega), if_pos (by omega)]
    apply Nat.div_eq_of_lt
    have h2 : (2 : Nat) ^ 53 ≤ 2 ^ ptN := Nat.pow_le_pow_right (by decide) (by decide)
    omega
end Go.Proofs.Ytefcpidegnddiaa
