/- Plain facts on the real nearest to a whole number (no Go in them): its place rises with the number, and numbers up to 2^53 come back. No conditions but those typed. -/
import Derived.Test.YtjndndfgommcdaaTrunc
namespace Go.Proofs.Ytjndndfgommcdaa
open Ieee

/-- Rounded to the nearest, the even one of two. -/
def evenN (n d : Nat) : Nat := n / 2 ^ d + (2 ^ d < 2 * (n % 2 ^ d) || (2 ^ d == 2 * (n % 2 ^ d) && n / 2 ^ d % 2 == 1) : Bool).toNat

theorem cut_even (s : Bool) (n d : Nat) (h : d ≤ n.log2 + 2) : Toward.even.cut s n d = evenN n d := by
  unfold Toward.cut evenN
  simp only [Nat.one_shiftLeft, Nat.min_eq_left h]

theorem evenN_le (n d : Nat) : evenN n d ≤ n / 2 ^ d + 1 := by
  unfold evenN
  have := Bool.toNat_le (2 ^ d < 2 * (n % 2 ^ d) || (2 ^ d == 2 * (n % 2 ^ d) && n / 2 ^ d % 2 == 1) : Bool)
  omega
theorem evenN_ge (n d : Nat) : n / 2 ^ d ≤ evenN n d := by unfold evenN; omega

theorem evenN_zero (n : Nat) : evenN n 0 = n := by
  unfold evenN
  have h1 : n % 2 ^ 0 = 0 := by rw [Nat.pow_zero]; omega
  rw [h1, Nat.pow_zero, Nat.div_one]
  simp

theorem evenN_mono (n m d : Nat) (h : n ≤ m) : evenN n d ≤ evenN m d := by
  have hq : n / 2 ^ d ≤ m / 2 ^ d := Nat.div_le_div_right h
  rcases Nat.lt_or_eq_of_le hq with hl | he
  · have := evenN_le n d
    have := evenN_ge m d
    omega
  · unfold evenN
    have h1 := Nat.div_add_mod n (2 ^ d)
    have h2 := Nat.div_add_mod m (2 ^ d)
    rw [← he] at h2 ⊢
    have hr : n % 2 ^ d ≤ m % 2 ^ d := by omega
    have hm := Nat.mod_lt m (Nat.two_pow_pos d)
    generalize n % 2 ^ d = r at *
    generalize m % 2 ^ d = t at *
    generalize n / 2 ^ d = q at *
    generalize 2 ^ d = g at *
    apply Nat.add_le_add_left
    by_cases c1 : g < 2 * t
    · have : (decide (g < 2 * t) || (g == 2 * t && q % 2 == 1)) = true := by simp [c1]
      rw [this]
      exact Bool.toNat_le _
    · by_cases c2 : g = 2 * t
      · by_cases c3 : r = t
        · subst c3; exact Nat.le_refl _
        · have e1 : decide (g < 2 * r) = false := decide_eq_false (by omega)
          have e2 : (g == 2 * r) = false := beq_eq_false_iff_ne.2 (by omega)
          rw [e1, e2]
          simp
      · have e1 : decide (g < 2 * r) = false := decide_eq_false (by omega)
        have e2 : (g == 2 * r) = false := beq_eq_false_iff_ne.2 (by omega)
        rw [e1, e2]
        simp

/-- What is kept of a magnitude: 53 digits. -/
def keptN (m : Nat) : Nat := evenN (m <<< (52 - m.log2)) (m.log2 - 52)
/-- The rung of the real nearest to a magnitude. -/
def rungN (m : Nat) : Nat := if m = 0 then 0 else (m.log2 + 1022) * 4503599627370496 + keptN m

theorem kept_in (m : Nat) (h : m ≠ 0) : 4503599627370496 ≤ keptN m ∧ keptN m ≤ 9007199254740992 := by
  have h1 : 2 ^ m.log2 ≤ m := Nat.log2_self_le h
  have h2 : m < 2 ^ (m.log2 + 1) := Nat.lt_log2_self
  unfold keptN
  rw [Nat.shiftLeft_eq]
  rcases Nat.le_total m.log2 52 with hl | hl
  · rw [show m.log2 - 52 = 0 by omega, evenN_zero]
    have e1 : 2 ^ m.log2 * 2 ^ (52 - m.log2) = 4503599627370496 := by rw [← Nat.pow_add, show m.log2 + (52 - m.log2) = 52 by omega]
    have e2 : 2 ^ (m.log2 + 1) * 2 ^ (52 - m.log2) = 9007199254740992 := by rw [← Nat.pow_add, show m.log2 + 1 + (52 - m.log2) = 53 by omega]
    have g1 := Nat.mul_le_mul_right (2 ^ (52 - m.log2)) h1
    have g2 := Nat.mul_le_mul_right (2 ^ (52 - m.log2)) (Nat.le_of_lt h2)
    omega
  · rw [show 52 - m.log2 = 0 by omega, Nat.pow_zero, Nat.mul_one]
    have g1 := evenN_le m (m.log2 - 52)
    have g2 := evenN_ge m (m.log2 - 52)
    have e1 : 2 ^ m.log2 = 4503599627370496 * 2 ^ (m.log2 - 52) := by
      rw [show (4503599627370496 : Nat) = 2 ^ 52 by decide, ← Nat.pow_add, show 52 + (m.log2 - 52) = m.log2 by omega]
    have e2 : 2 ^ (m.log2 + 1) = 9007199254740992 * 2 ^ (m.log2 - 52) := by
      rw [show (9007199254740992 : Nat) = 2 ^ 53 by decide, ← Nat.pow_add, show 53 + (m.log2 - 52) = m.log2 + 1 by omega]
    have k1 : 4503599627370496 ≤ m / 2 ^ (m.log2 - 52) := (Nat.le_div_iff_mul_le (Nat.two_pow_pos _)).2 (by omega)
    have k2 : m / 2 ^ (m.log2 - 52) < 9007199254740992 := (Nat.div_lt_iff_lt_mul (Nat.two_pow_pos _)).2 (by omega)
    omega

theorem log2_mono {n m : Nat} (h0 : n ≠ 0) (h : n ≤ m) : n.log2 ≤ m.log2 := by
  have h1 : 2 ^ n.log2 ≤ n := Nat.log2_self_le h0
  exact (Nat.le_log2 (by omega)).2 (by omega)

theorem rung_mono {n m : Nat} (h : n ≤ m) : rungN n ≤ rungN m := by
  unfold rungN
  by_cases hn : n = 0
  · rw [if_pos hn]; exact Nat.zero_le _
  · rw [if_neg hn, if_neg (by omega)]
    have k1 := kept_in n hn
    have k2 := kept_in m (by omega)
    rcases Nat.lt_or_eq_of_le (log2_mono hn h) with hl | he
    · generalize n.log2 = a at *
      generalize m.log2 = b at *
      omega
    · have : keptN n ≤ keptN m := by
        unfold keptN
        rw [he]
        apply evenN_mono
        rw [Nat.shiftLeft_eq, Nat.shiftLeft_eq]
        exact Nat.mul_le_mul_right _ h
      rw [he]
      omega

theorem rung_lt (m : Nat) (h : m < 18446744073709551616) : rungN m < 9218868437227405312 := by
  unfold rungN
  split
  · decide
  · have k := kept_in m (by omega)
    have : m.log2 < 64 := (Nat.log2_lt (by omega)).2 h
    omega

theorem fromInt_word (n : Int) (h0 : -9223372036854775808 ≤ n) (h1 : n ≤ 9223372036854775807) : floatOfInt .f64 n = if n < 0 then 9223372036854775808 + rungN n.natAbs else rungN n.natAbs := by
  have hlt := rung_lt n.natAbs (by omega)
  unfold floatOfInt FloatKind.nearest FloatKind.encode
  simp only [Format.write]
  unfold Format.nearest
  by_cases hz : n.natAbs = 0
  · rw [if_pos hz]
    have : n = 0 := by omega
    subst this
    decide
  · rw [if_neg hz]
    have hlog : n.natAbs.log2 < 64 := (Nat.log2_lt hz).2 (by omega)
    have e52 : FloatKind.f64.format.fractionBits = 52 := rfl
    simp only [f64_least, f64_binade, f64_infRung, e52]
    have hmax : max ((0 : Int) + (n.natAbs.log2 : Int) - (52 : Nat)) (-1074) = (n.natAbs.log2 : Int) - 52 := by omega
    rw [hmax]
    rw [show ((0 : Int) - ((n.natAbs.log2 : Int) - 52)).toNat = 52 - n.natAbs.log2 by omega, show ((n.natAbs.log2 : Int) - 52 - 0).toNat = n.natAbs.log2 - 52 by omega, show ((n.natAbs.log2 : Int) - 52 - -1074).toNat = n.natAbs.log2 + 1022 by omega]
    rw [cut_even]
    · unfold rungN at hlt
      rw [if_neg hz] at hlt
      unfold keptN at hlt
      rw [Nat.min_eq_left (by omega)]
      unfold Format.word rungN keptN
      rw [f64_sign, if_neg hz]
      by_cases hneg : n < 0
      · rw [if_pos hneg, decide_eq_true hneg, if_pos rfl]
      · rw [if_neg hneg, decide_eq_false hneg, if_neg Bool.false_ne_true]
    · rcases Nat.le_total n.natAbs.log2 52 with hl | hl
      · omega
      · rw [show 52 - n.natAbs.log2 = 0 by omega, Nat.shiftLeft_zero]; omega

theorem fromInt_nan (n : Int) (h0 : -9223372036854775808 ≤ n) (h1 : n ≤ 9223372036854775807) : nanB (floatOfInt .f64 n) = false := by
  have hlt := rung_lt n.natAbs (by omega)
  rw [fromInt_word n h0 h1]
  simp only [nanB, decide_eq_false_iff_not]
  split <;> omega

theorem fromInt_rank (n : Int) (h0 : -9223372036854775808 ≤ n) (h1 : n ≤ 9223372036854775807) : rankZ (floatOfInt .f64 n) = if n < 0 then -(rungN n.natAbs : Int) else (rungN n.natAbs : Int) := by
  have hlt := rung_lt n.natAbs (by omega)
  rw [fromInt_word n h0 h1]
  unfold rankZ
  by_cases hneg : n < 0
  · simp only [if_pos hneg]
    rw [if_pos (by rw [beq_iff_eq]; omega)]
    omega
  · simp only [if_neg hneg]
    rw [if_neg (by rw [beq_iff_eq]; omega)]
    omega

theorem fromInt_mono (n m : Int) (h0 : -9223372036854775808 ≤ n) (h : n < m) (h1 : m ≤ 9223372036854775807) : rankZ (floatOfInt .f64 n) ≤ rankZ (floatOfInt .f64 m) := by
  rw [fromInt_rank n h0 (by omega), fromInt_rank m (by omega) h1]
  by_cases hn : n < 0
  · by_cases hm : m < 0
    · rw [if_pos hn, if_pos hm]
      have := rung_mono (n := m.natAbs) (m := n.natAbs) (by omega)
      omega
    · rw [if_pos hn, if_neg hm]; omega
  · rw [if_neg hn, if_neg (by omega)]
    have := rung_mono (n := n.natAbs) (m := m.natAbs) (by omega)
    omega

theorem whole_back (m : Nat) (h : m ≤ 9007199254740992) : wholeN (rungN m) = m := by
  by_cases h0 : m = 0
  · subst h0; decide +kernel
  by_cases h53 : m = 9007199254740992
  · subst h53; decide +kernel
  have hl : m.log2 ≤ 52 := by
    have : m.log2 < 53 := (Nat.log2_lt h0).2 (by omega)
    omega
  have k := kept_in m h0
  have h1 : 2 ^ m.log2 ≤ m := Nat.log2_self_le h0
  have h2 : m < 2 ^ (m.log2 + 1) := Nat.lt_log2_self
  have hk : keptN m = m * 2 ^ (52 - m.log2) := by
    unfold keptN
    rw [show m.log2 - 52 = 0 by omega, evenN_zero, Nat.shiftLeft_eq]
  have hk2 : keptN m < 9007199254740992 := by
    have e2 : 2 ^ (m.log2 + 1) * 2 ^ (52 - m.log2) = 9007199254740992 := by rw [← Nat.pow_add, show m.log2 + 1 + (52 - m.log2) = 53 by omega]
    have := Nat.mul_lt_mul_of_pos_right h2 (Nat.two_pow_pos (52 - m.log2))
    omega
  have hr : rungN m = (m.log2 + 1022) * 4503599627370496 + keptN m := by unfold rungN; rw [if_neg h0]
  have hd : rungN m / 4503599627370496 = m.log2 + 1023 := by omega
  have hm : rungN m % 4503599627370496 + 4503599627370496 = keptN m := by omega
  rw [whole_right _ (by omega) (by omega), hd, hm, hk, show 1075 - (m.log2 + 1023) = 52 - m.log2 by omega, Nat.mul_div_cancel _ (Nat.two_pow_pos _)]

theorem trunc_back (n : Int) (h0 : -9007199254740992 ≤ n) (h1 : n ≤ 9007199254740992) : truncZ (floatOfInt .f64 n) = n := by
  have hb := whole_back n.natAbs (by omega)
  have hm := rung_mono (n := n.natAbs) (m := 9007199254740992) (by omega)
  have ht : rungN 9007199254740992 = 4845873199050653696 := by decide +kernel
  have hn := fromInt_nan n (by omega) (by omega)
  unfold truncZ
  rw [hn, if_neg Bool.false_ne_true, fromInt_word n (by omega) (by omega)]
  by_cases hneg : n < 0
  · simp only [if_pos hneg]
    have e : (9223372036854775808 + rungN n.natAbs) % 9223372036854775808 = rungN n.natAbs := by omega
    have eb : negB (9223372036854775808 + rungN n.natAbs) = true := by unfold negB; rw [beq_iff_eq]; omega
    rw [e, if_pos (by omega), eb, if_pos rfl, hb]
    omega
  · simp only [if_neg hneg]
    have e : rungN n.natAbs % 9223372036854775808 = rungN n.natAbs := by omega
    have eb : negB (rungN n.natAbs) = false := by unfold negB; rw [beq_eq_false_iff_ne]; omega
    rw [e, if_pos (by omega), eb, if_neg Bool.false_ne_true, hb]
    omega
end Go.Proofs.Ytjndndfgommcdaa
