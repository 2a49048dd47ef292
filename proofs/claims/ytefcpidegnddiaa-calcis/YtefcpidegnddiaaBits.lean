/- Plain facts on the bits of reals (no Go in them): what is no number, tidied bits, and the answers of package num as functions of bits. No conditions but those typed. -/
import Derived.Laws.FloatArith
import Derived.RowKit
namespace Go.Proofs.Ytefcpidegnddiaa
open Ieee

/-- No number, by the bits. -/
def nanB (x : Nat) : Bool := decide (9218868437227405312 < x % 9223372036854775808)
/-- Tidied bits. -/
def tidyN (x : Nat) : Nat := if nanB x then 9221120237041090560 else x

theorem f64_binade : FloatKind.f64.format.binade = 4503599627370496 := by decide
theorem f64_infRung : FloatKind.f64.format.infRung = 9218868437227405312 := by decide
theorem f64_sign : FloatKind.f64.format.signWeight = 9223372036854775808 := by decide
theorem f64_least : FloatKind.f64.format.leastPlace = -1074 := by decide

theorem read_nan (x : Nat) (h : nanB x = true) : ∃ s t, FloatKind.f64.format.read x = .nan s t := by
  simp only [nanB, decide_eq_true_eq] at h
  unfold Format.read
  simp only [f64_binade, f64_infRung, f64_sign]
  rw [if_neg (by omega), if_neg (by omega), if_neg (by omega)]
  exact ⟨_, _, rfl⟩

theorem read_inf (x : Nat) (h : x % 9223372036854775808 = 9218868437227405312) : FloatKind.f64.format.read x = .infinity (x / 9223372036854775808 % 2 == 1) := by
  unfold Format.read
  simp only [f64_binade, f64_infRung, f64_sign, h]
  rw [if_neg (by omega), if_neg (by omega), if_pos trivial]

/-- The magnitude's row of digits, and its place above the least one. -/
def magN (r : Nat) : Nat := if r < 4503599627370496 then r else 4503599627370496 + r % 4503599627370496
def upN (r : Nat) : Nat := if r < 4503599627370496 then 0 else r / 4503599627370496 - 1

theorem read_num (x : Nat) (h : x % 9223372036854775808 < 9218868437227405312) :
    FloatKind.f64.format.read x = .number (x / 9223372036854775808 % 2 == 1) (magN (x % 9223372036854775808)) (-1074 + (upN (x % 9223372036854775808) : Int)) := by
  unfold Format.read magN upN
  simp only [f64_binade, f64_infRung, f64_sign, f64_least]
  by_cases hb : x % 9223372036854775808 < 4503599627370496
  · simp only [if_pos hb]; simp
  · simp only [if_neg hb, if_pos h]

theorem order_nan_l (x y : Nat) (h : nanB x = true) : FloatKind.f64.format.order x y = none := by
  obtain ⟨s, t, e⟩ := read_nan x h
  unfold Format.order
  rw [e]; rfl

theorem order_nan_r (x y : Nat) (h : nanB y = true) : FloatKind.f64.format.order x y = none := by
  obtain ⟨s, t, e⟩ := read_nan y h
  unfold Format.order
  rw [e]
  cases FloatKind.f64.format.read x <;> rfl

/-- The magnitude in units of the least place. -/
def valN (r : Nat) : Nat := magN r * 2 ^ upN r

theorem pow_step (a : Nat) : 2 ^ (a + 1) = 2 ^ a * 2 := Nat.pow_succ 2 a

theorem valN_lt_succ (r : Nat) : valN r < valN (r + 1) := by
  unfold valN magN upN
  by_cases h : r + 1 < 4503599627370496
  · simp only [if_pos h, if_pos (show r < 4503599627370496 by omega)]; simp
  · by_cases h' : r < 4503599627370496
    · have : r = 4503599627370495 := by omega
      subst this; decide
    · simp only [if_neg h, if_neg h']
      by_cases hm : (r + 1) % 4503599627370496 = 0
      · have e1 : (r + 1) / 4503599627370496 - 1 = (r / 4503599627370496 - 1) + 1 := by omega
        have e2 : r % 4503599627370496 = 4503599627370495 := by omega
        rw [e1, e2, hm, pow_step]
        have := Nat.two_pow_pos (r / 4503599627370496 - 1)
        generalize 2 ^ (r / 4503599627370496 - 1) = p at *
        omega
      · have e1 : (r + 1) / 4503599627370496 - 1 = (r / 4503599627370496 - 1) := by omega
        have e2 : (r + 1) % 4503599627370496 = r % 4503599627370496 + 1 := by omega
        rw [e1, e2]
        have := Nat.two_pow_pos (r / 4503599627370496 - 1)
        exact Nat.mul_lt_mul_of_pos_right (by omega) this

theorem valN_mono (r d : Nat) : valN r + d ≤ valN (r + d) := by
  induction d with
  | zero => simp
  | succ n ih =>
    have := valN_lt_succ (r + n)
    rw [show r + (n + 1) = r + n + 1 from rfl]
    omega

theorem valN_lt {r s : Nat} (h : r < s) : valN r < valN s := by
  have := valN_mono r (s - r)
  rw [show r + (s - r) = s by omega] at this
  omega

/-- The place of a real among all, nought being 0. -/
def rankZ (x : Nat) : Int := if x / 9223372036854775808 % 2 == 1 then -((x % 9223372036854775808 : Nat) : Int) else ((x % 9223372036854775808 : Nat) : Int)

theorem signed_eq (s : Bool) (m u : Nat) : signed s m u = if s then -((m * 2 ^ u : Nat) : Int) else ((m * 2 ^ u : Nat) : Int) := by
  unfold signed; rw [Nat.shiftLeft_eq]

theorem valN_zero : valN 0 = 0 := by decide

theorem cmp_scaled (s t : Bool) (r q : Nat) (c : Nat) (A B : Nat) (hA : A * 2 ^ c = valN r) (hB : B * 2 ^ c = valN q) :
    compare (if s then -(A : Int) else (A : Int)) (if t then -(B : Int) else (B : Int)) = compare (if s then -(r : Int) else (r : Int)) (if t then -(q : Int) else (q : Int)) := by
  have hp := Nat.two_pow_pos c
  have lt1 : r < q → A < B := fun h => by
    have := valN_lt h
    rw [← hA, ← hB] at this
    exact Nat.lt_of_mul_lt_mul_right this
  have lt2 : q < r → B < A := fun h => by
    have := valN_lt h
    rw [← hA, ← hB] at this
    exact Nat.lt_of_mul_lt_mul_right this
  have eq1 : r = q → A = B := fun h => by
    subst h
    rw [← hB] at hA
    exact Nat.eq_of_mul_eq_mul_right hp hA
  have z1 : r = 0 ↔ A = 0 := by
    constructor
    · intro h; subst h; rw [valN_zero] at hA
      rcases Nat.mul_eq_zero.1 hA with h | h
      · exact h
      · omega
    · intro h; subst h
      rcases Nat.eq_zero_or_pos r with h | h
      · exact h
      · have := valN_lt h; rw [valN_zero] at this; omega
  have z2 : q = 0 ↔ B = 0 := by
    constructor
    · intro h; subst h; rw [valN_zero] at hB
      rcases Nat.mul_eq_zero.1 hB with h | h
      · exact h
      · omega
    · intro h; subst h
      rcases Nat.eq_zero_or_pos q with h | h
      · exact h
      · have := valN_lt h; rw [valN_zero] at this; omega
  simp only [compare, compareOfLessAndEq]
  cases s <;> cases t <;> simp only [if_true, Bool.false_eq_true, if_false] <;> (repeat' split) <;> first | rfl | (exfalso; omega)

theorem order_num (x y : Nat) (hx : x % 9223372036854775808 < 9218868437227405312) (hy : y % 9223372036854775808 < 9218868437227405312) :
    FloatKind.f64.format.order x y = some (compare (rankZ x) (rankZ y)) := by
  unfold Format.order
  rw [read_num x hx, read_num y hy]
  unfold Datum.order rankZ
  simp only [signed_eq]
  congr 1
  generalize (x / 9223372036854775808 % 2 == 1) = s
  generalize (y / 9223372036854775808 % 2 == 1) = t
  generalize x % 9223372036854775808 = r
  generalize y % 9223372036854775808 = q
  rcases Nat.le_total (upN r) (upN q) with h | h
  · refine cmp_scaled s t r q (upN r) _ _ ?_ ?_
    · unfold valN
      rw [show ((-1074 + (upN r : Int)) - min (-1074 + (upN r : Int)) (-1074 + (upN q : Int))).toNat = 0 by omega]; simp
    · unfold valN
      rw [show ((-1074 + (upN q : Int)) - min (-1074 + (upN r : Int)) (-1074 + (upN q : Int))).toNat = upN q - upN r by omega, Nat.mul_assoc, ← Nat.pow_add]
      congr 2; omega
  · refine cmp_scaled s t r q (upN q) _ _ ?_ ?_
    · unfold valN
      rw [show ((-1074 + (upN r : Int)) - min (-1074 + (upN r : Int)) (-1074 + (upN q : Int))).toNat = upN r - upN q by omega, Nat.mul_assoc, ← Nat.pow_add]
      congr 2; omega
    · unfold valN
      rw [show ((-1074 + (upN q : Int)) - min (-1074 + (upN r : Int)) (-1074 + (upN q : Int))).toNat = 0 by omega]; simp

theorem order_rank (x y : Nat) (hx : nanB x = false) (hy : nanB y = false) :
    FloatKind.f64.format.order x y = some (compare (rankZ x) (rankZ y)) := by
  simp only [nanB, decide_eq_false_iff_not] at hx hy
  by_cases h1 : x % 9223372036854775808 = 9218868437227405312
  · by_cases h2 : y % 9223372036854775808 = 9218868437227405312
    · unfold Format.order rankZ
      rw [read_inf x h1, read_inf y h2, h1, h2]
      generalize (x / 9223372036854775808 % 2 == 1) = s
      generalize (y / 9223372036854775808 % 2 == 1) = t
      cases s <;> cases t <;> decide
    · unfold Format.order rankZ
      rw [read_inf x h1, read_num y (by omega), h1]
      have h3 : y % 9223372036854775808 < 9218868437227405312 := by omega
      generalize (x / 9223372036854775808 % 2 == 1) = s
      generalize (y / 9223372036854775808 % 2 == 1) = t
      generalize y % 9223372036854775808 = q at *
      simp only [Datum.order, compare, compareOfLessAndEq]
      cases s <;> cases t <;> simp only [if_true, Bool.false_eq_true, if_false] <;> (repeat' split) <;> first | rfl | (exfalso; omega)
  · have h4 : x % 9223372036854775808 < 9218868437227405312 := by omega
    by_cases h2 : y % 9223372036854775808 = 9218868437227405312
    · unfold Format.order rankZ
      rw [read_num x h4, read_inf y h2, h2]
      generalize (x / 9223372036854775808 % 2 == 1) = s
      generalize (y / 9223372036854775808 % 2 == 1) = t
      generalize x % 9223372036854775808 = q at *
      simp only [Datum.order, compare, compareOfLessAndEq]
      cases s <;> cases t <;> simp only [if_true, Bool.false_eq_true, if_false] <;> (repeat' split) <;> first | rfl | (exfalso; omega)
    · exact order_num x y h4 (by omega)

theorem order_self (x : Nat) : (FloatKind.f64.format.order x x != some Ordering.eq) = nanB x := by
  cases h : nanB x
  · rw [order_rank x x h h]
    have : compare (rankZ x) (rankZ x) = Ordering.eq := by simp [compare, compareOfLessAndEq]
    rw [this]; decide
  · rw [order_nan_l x x h]; decide

end Go.Proofs.Ytefcpidegnddiaa
