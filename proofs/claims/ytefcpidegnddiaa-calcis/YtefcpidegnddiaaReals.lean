/- Contracts of the calls of package num on reals, and of the document's answers to them, over the landed code: each is a plain function of bits. No conditions but that arguments are of their kinds. -/
import Derived.Test.YtefcpidegnddiaaInts
import Derived.Test.YtefcpidegnddiaaTrunc
import Derived.Deep.Draws
namespace Go.Proofs.Ytefcpidegnddiaa
open Go.ChangeShapes Go.WideShapes Go.ChangeAt Go.RowKit
set_option maxHeartbeats 400000

theorem run_frombits (a : Int) (w : World) : (callFunc 34 #[.int .u64 a]).run Try.prog w = .ok (.value (.float .f64 a.toNat)) w := by
  rw [run_callFunc_extern (e := Extern.MathFloatBits.float64frombits) Try.func34 (by kernel_rfl) (by kernel_rfl) (by kernel_rfl) (by kernel_rfl)]
  rfl

theorem run_bits (x : Nat) (w : World) : (callFunc 24 #[.float .f64 x]).run Try.prog w = .ok (.value (.int .u64 (x : Int))) w := by
  rw [run_callFunc_extern (e := Extern.MathFloatBits.float64bits) Try.func24 (by kernel_rfl) (by kernel_rfl) (by kernel_rfl) (by kernel_rfl)]
  rfl

attribute [local go_sem] run_frombits run_bits

theorem isNaN_any (x : Nat) (w : World) : Calls Try.prog 39 #[.float .f64 x] w fun e w' => e = .returned (.bool (nanB x)) ∧ w' = w := by
  go_enter Try.func39, Try.ntmps39
  go_wp2
  go_ret
  exact ⟨congrArg (fun b => Ending.returned (Value.bool b)) (order_self x), rfl⟩

theorem tidy_any (a : Int) (w : World) : Calls Try.prog 38 #[.int .u64 a] w fun e w' => e = .returned (.int .u64 (if nanB a.toNat then 9221120237041090560 else a)) ∧ w' = w := by
  cases h : nanB a.toNat
  all_goals
    go_enter Try.func38, Try.ntmps38
    go_wp2_with (go_at_call 39; refine (isNaN_any _ _).mono ?_; rintro e w' ⟨rfl, rfl⟩)
    go_ret
    exact ⟨rfl, rfl⟩

theorem odd_yes (a : Int) (h0 : 0 ≤ a) (h1 : a ≤ 18446744073709551615) (h : IntKind.u64.wrap (a * 2) / 9007199254740992 = 2047) : (IntKind.u64.wrap (a * 4096) != 0) = nanB a.toNat := by
  rw [IntKind.wrap_u64] at *
  unfold nanB
  obtain ⟨n, rfl⟩ := Int.eq_ofNat_of_zero_le h0
  rw [Int.toNat_natCast]
  rw [Bool.eq_iff_iff, bne_iff_ne, decide_eq_true_eq]
  omega

theorem odd_no (a : Int) (h0 : 0 ≤ a) (h1 : a ≤ 18446744073709551615) (h : ¬ IntKind.u64.wrap (a * 2) / 9007199254740992 = 2047) : nanB a.toNat = false := by
  rw [IntKind.wrap_u64] at h
  unfold nanB
  obtain ⟨n, rfl⟩ := Int.eq_ofNat_of_zero_le h0
  rw [Int.toNat_natCast, decide_eq_false_iff_not]
  omega

theorem odd_any (a : Int) (w : World) (h0 : 0 ≤ a) (h1 : a ≤ 18446744073709551615) : Calls Try.prog 22 #[.int .u64 a] w fun e w' => e = .returned (.bool (nanB a.toNat)) ∧ w' = w := by
  by_cases h : IntKind.u64.wrap (a * 2) / 9007199254740992 = 2047
  · go_enter Try.func22, Try.ntmps22
    go_wp2
    go_ret
    exact ⟨congrArg (fun b => Ending.returned (Value.bool b)) (odd_yes a h0 h1 h), rfl⟩
  · go_enter Try.func22, Try.ntmps22
    go_wp2
    go_ret
    exact ⟨congrArg (fun b => Ending.returned (Value.bool b)) (odd_no a h0 h1 h).symm, rfl⟩

theorem rtidy_any (a : Int) (w : World) (h0 : 0 ≤ a) (h1 : a ≤ 18446744073709551615) : Calls Try.prog 23 #[.int .u64 a] w fun e w' => e = .returned (.int .u64 (if nanB a.toNat then 9221120237041090560 else a)) ∧ w' = w := by
  cases h : nanB a.toNat
  all_goals
    go_enter Try.func23, Try.ntmps23
    go_wp2_with (go_at_call 22; refine (odd_any _ _ h0 h1).mono ?_; rintro e w' ⟨rfl, rfl⟩)
    go_ret
    exact ⟨rfl, rfl⟩

/-- With the other sign. -/
def flipI (a : Int) : Int := if a < 9223372036854775808 then a + 9223372036854775808 else a - 9223372036854775808

theorem xor_top (n : Nat) (h : n < 9223372036854775808) : n ^^^ 9223372036854775808 = 9223372036854775808 + n := by
  have e : (9223372036854775808 : Nat) = 2 ^ 63 := by decide
  rw [e] at *
  apply Nat.eq_of_testBit_eq
  intro i
  rw [Nat.testBit_xor, Nat.testBit_two_pow]
  rcases Nat.lt_trichotomy i 63 with hi | hi | hi
  · rw [Nat.testBit_two_pow_add_gt hi, decide_eq_false (by omega), Bool.xor_false]
  · subst hi
    rw [Nat.testBit_two_pow_add_eq, Nat.testBit_lt_two_pow h]; decide
  · have h2 : (2 : Nat) ^ 64 ≤ 2 ^ i := Nat.pow_le_pow_right (by decide) (by omega)
    rw [Nat.testBit_lt_two_pow (show n < 2 ^ i by omega), Nat.testBit_lt_two_pow (show 2 ^ 63 + n < 2 ^ i by omega), decide_eq_false (by omega)]; rfl

theorem xor_sign (a : Int) (h0 : 0 ≤ a) (h1 : a ≤ 18446744073709551615) : bits BinOp.xor IntKind.u64 a 9223372036854775808 = flipI a := by
  obtain ⟨n, rfl⟩ := Int.eq_ofNat_of_zero_le h0
  have e := bits_xor_u64_nat n 9223372036854775808 (by omega) (by omega)
  refine Eq.trans e ?_
  unfold flipI
  by_cases h : n < 9223372036854775808
  · rw [xor_top n h, if_pos (by omega)]; omega
  · have e2 : n = (n - 9223372036854775808) ^^^ 9223372036854775808 := by rw [xor_top _ (by omega)]; omega
    rw [if_neg (by omega)]
    have e3 : n ^^^ 9223372036854775808 = n - 9223372036854775808 := by
      conv => lhs; rw [e2]
      rw [Nat.xor_assoc, Nat.xor_self, Nat.xor_zero]
    rw [e3]; omega

theorem nan_not (a : Int) (h : nanB a.toNat = false) : (a == 9221120237041090560) = false := by
  rw [beq_eq_false_iff_ne]
  rintro rfl
  revert h
  decide

theorem neg_any (a : Int) (w : World) (h0 : 0 ≤ a) (h1 : a ≤ 18446744073709551615) : Calls Try.prog 29 #[.int .u64 a] w fun e w' => e = .returned (.int .u64 (if nanB a.toNat then 9221120237041090560 else flipI a)) ∧ w' = w := by
  cases h : nanB a.toNat
  · have h2 := nan_not a h
    go_enter Try.func29, Try.ntmps29
    go_wp2_with (go_at_call 38; refine (tidy_any _ _).mono ?_; rintro e w' ⟨rfl, rfl⟩)
    go_ret
    exact ⟨congrArg (fun b => Ending.returned (Value.int .u64 b)) (xor_sign a h0 h1), rfl⟩
  · go_enter Try.func29, Try.ntmps29
    go_wp2_with (go_at_call 38; refine (tidy_any _ _).mono ?_; rintro e w' ⟨rfl, rfl⟩)
    go_ret
    exact ⟨rfl, rfl⟩

theorem fromInt_any (n : Int) (w : World) : Calls Try.prog 30 #[.int .i64 n] w fun e w' => e = .returned (.int .u64 (floatOfInt .f64 n)) ∧ w' = w := by
  go_enter Try.func30, Try.ntmps30
  go_wp2
  go_ret
  exact ⟨rfl, rfl⟩

theorem tidyBits_any (x : Nat) (w : World) : Calls Try.prog 40 #[.float .f64 x] w fun e w' => e = .returned (.int .u64 (tidyN x)) ∧ w' = w := by
  cases h : nanB x
  all_goals
    have h' : nanB (x : Int).toNat = nanB x := by rw [Int.toNat_natCast]
    go_enter Try.func40, Try.ntmps40
    go_wp2_with (go_at_call 38; refine (tidy_any _ _).mono ?_; rintro e w' ⟨rfl, rfl⟩)
    go_ret
    exact ⟨by simp [tidyN, h], rfl⟩

/-- What 'holds' answers of reals. -/
def holdsR (op : Int) (x y : Nat) : Bool := if op == 5 then FloatKind.f64.format.order x y == some .eq else if op == 6 then FloatKind.f64.format.order x y != some .eq else if op == 7 then FloatKind.f64.format.order x y == some .lt else if op == 8 then FloatKind.f64.format.order x y == some .lt || FloatKind.f64.format.order x y == some .eq else false

theorem holdsR_any (op : Int) (x y : Nat) (w : World) : Calls Try.prog 42 #[.int .i64 op, .float .f64 x, .float .f64 y] w fun e w' => e = .returned (.bool (holdsR op x y)) ∧ w' = w := by
  go_enter Try.func42, Try.ntmps42
  go_wp2
  all_goals
    go_ret
    exact ⟨by simp [holdsR, *], rfl⟩

/-- What the machine answers for no number. -/
def nanOf (w : World) (x y : Nat) : Nat := (Question.nanBits .f64 x y).cut (w.tape w.drawn (Question.nanBits .f64 x y))

theorem nanOf_nan (w : World) (x y : Nat) : nanB (nanOf w x y) = true := by
  unfold nanOf nanB Question.cut
  simp only [decide_eq_true_eq]
  generalize w.tape w.drawn (Question.nanBits FloatKind.f64 x y) = t
  rcases Nat.mod_two_eq_zero_or_one t with h | h <;> rw [h] <;> omega

theorem run_none {P : Program} (op : BinOp) (t : TypeId) (x y : Nat) (ho : op = .add ∨ op = .sub ∨ op = .mul ∨ op = .quo) (h : floatBits op .f64 x y = none) (w : World) :
    (binOp op t (.float .f64 x) (.float .f64 y)).run P w = .ok (.float .f64 (nanOf w x y)) w.drew := by
  unfold floatBits at h
  rcases ho with rfl | rfl | rfl | rfl <;> simp only at h <;> simp [binOp, Op.floatArith, h, nanOf, Question.forced]

/-- What is answered, of what was reckoned. -/
def realO (o : Option Nat) : Nat := match o with
  | some r => tidyN r
  | none => 9221120237041090560

theorem tidyN_nan (x : Nat) (h : nanB x = true) : tidyN x = 9221120237041090560 := by simp [tidyN, h]

theorem real_add (a b : Int) (w : World) : Calls Try.prog 32 #[.int .i64 0, .int .u64 a, .int .u64 b] w fun e w' => e = .returned (.int .u64 (realO (floatBits .add .f64 a.toNat b.toNat))) ∧ ∃ n, w' = w.drewN n := by
  cases h : floatBits .add .f64 a.toNat b.toNat with
  | some r =>
    have hr := fun w => run_float_arith (P := Try.prog) w .add 55 .f64 a.toNat b.toNat r h
    clear h
    go_enter Try.func32, Try.ntmps32
    go_wp2_with (go_at_call 40; refine (tidyBits_any _ _).mono ?_; rintro e w' ⟨rfl, rfl⟩)
    go_ret
    exact ⟨rfl, 0, rfl⟩
  | none =>
    have hr := fun w => run_none (P := Try.prog) .add 55 a.toNat b.toNat (by simp) h w
    clear h
    go_enter Try.func32, Try.ntmps32
    go_wp2_with (go_at_call 40; refine (tidyBits_any _ _).mono ?_; rintro e w' ⟨rfl, rfl⟩)
    go_ret
    exact ⟨by rw [tidyN_nan _ (nanOf_nan _ _ _)]; rfl, 1, rfl⟩
theorem real_sub (a b : Int) (w : World) : Calls Try.prog 32 #[.int .i64 1, .int .u64 a, .int .u64 b] w fun e w' => e = .returned (.int .u64 (realO (floatBits .sub .f64 a.toNat b.toNat))) ∧ ∃ n, w' = w.drewN n := by
  cases h : floatBits .sub .f64 a.toNat b.toNat with
  | some r =>
    have hr := fun w => run_float_arith (P := Try.prog) w .sub 55 .f64 a.toNat b.toNat r h
    clear h
    go_enter Try.func32, Try.ntmps32
    go_wp2_with (go_at_call 40; refine (tidyBits_any _ _).mono ?_; rintro e w' ⟨rfl, rfl⟩)
    go_ret
    exact ⟨rfl, 0, rfl⟩
  | none =>
    have hr := fun w => run_none (P := Try.prog) .sub 55 a.toNat b.toNat (by simp) h w
    clear h
    go_enter Try.func32, Try.ntmps32
    go_wp2_with (go_at_call 40; refine (tidyBits_any _ _).mono ?_; rintro e w' ⟨rfl, rfl⟩)
    go_ret
    exact ⟨by rw [tidyN_nan _ (nanOf_nan _ _ _)]; rfl, 1, rfl⟩
theorem real_mul (a b : Int) (w : World) : Calls Try.prog 32 #[.int .i64 2, .int .u64 a, .int .u64 b] w fun e w' => e = .returned (.int .u64 (realO (floatBits .mul .f64 a.toNat b.toNat))) ∧ ∃ n, w' = w.drewN n := by
  cases h : floatBits .mul .f64 a.toNat b.toNat with
  | some r =>
    have hr := fun w => run_float_arith (P := Try.prog) w .mul 55 .f64 a.toNat b.toNat r h
    clear h
    go_enter Try.func32, Try.ntmps32
    go_wp2_with (go_at_call 40; refine (tidyBits_any _ _).mono ?_; rintro e w' ⟨rfl, rfl⟩)
    go_ret
    exact ⟨rfl, 0, rfl⟩
  | none =>
    have hr := fun w => run_none (P := Try.prog) .mul 55 a.toNat b.toNat (by simp) h w
    clear h
    go_enter Try.func32, Try.ntmps32
    go_wp2_with (go_at_call 40; refine (tidyBits_any _ _).mono ?_; rintro e w' ⟨rfl, rfl⟩)
    go_ret
    exact ⟨by rw [tidyN_nan _ (nanOf_nan _ _ _)]; rfl, 1, rfl⟩
theorem real_quo (a b : Int) (w : World) : Calls Try.prog 32 #[.int .i64 3, .int .u64 a, .int .u64 b] w fun e w' => e = .returned (.int .u64 (realO (floatBits .quo .f64 a.toNat b.toNat))) ∧ ∃ n, w' = w.drewN n := by
  cases h : floatBits .quo .f64 a.toNat b.toNat with
  | some r =>
    have hr := fun w => run_float_arith (P := Try.prog) w .quo 55 .f64 a.toNat b.toNat r h
    clear h
    go_enter Try.func32, Try.ntmps32
    go_wp2_with (go_at_call 40; refine (tidyBits_any _ _).mono ?_; rintro e w' ⟨rfl, rfl⟩)
    go_ret
    exact ⟨rfl, 0, rfl⟩
  | none =>
    have hr := fun w => run_none (P := Try.prog) .quo 55 a.toNat b.toNat (by simp) h w
    clear h
    go_enter Try.func32, Try.ntmps32
    go_wp2_with (go_at_call 40; refine (tidyBits_any _ _).mono ?_; rintro e w' ⟨rfl, rfl⟩)
    go_ret
    exact ⟨by rw [tidyN_nan _ (nanOf_nan _ _ _)]; rfl, 1, rfl⟩

theorem real_rem (a b : Int) (w : World) : Calls Try.prog 32 #[.int .i64 4, .int .u64 a, .int .u64 b] w fun e w' => e = .returned (.int .u64 9221120237041090560) ∧ w' = w := by
  go_enter Try.func32, Try.ntmps32
  go_wp2
  go_ret
  exact ⟨rfl, rfl⟩

theorem real_cmp (op a b : Int) (w : World) (h : op < 0 ∨ 4 < op) : Calls Try.prog 32 #[.int .i64 op, .int .u64 a, .int .u64 b] w fun e w' => e = .returned (.int .u64 (if holdsR op a.toNat b.toNat then 1 else 0)) ∧ w' = w := by
  have h0 : (op == 0) = false := beq_eq_false_iff_ne.2 (by omega)
  have h1 : (op == 1) = false := beq_eq_false_iff_ne.2 (by omega)
  have h2 : (op == 2) = false := beq_eq_false_iff_ne.2 (by omega)
  have h3 : (op == 3) = false := beq_eq_false_iff_ne.2 (by omega)
  have h4 : (op == 4) = false := beq_eq_false_iff_ne.2 (by omega)
  clear h
  cases hh : holdsR op a.toNat b.toNat
  all_goals
    go_enter Try.func32, Try.ntmps32
    go_wp2_with (first | (go_at_call 42; refine (holdsR_any _ _ _ _).mono ?_; rintro e w' ⟨rfl, rfl⟩) | (go_at_call 41; refine (truth_any _ _).mono ?_; rintro e w' ⟨rfl, rfl⟩))
    go_ret
    exact ⟨rfl, rfl⟩

theorem trunc_any (a : Int) (w : World) : Calls Try.prog 31 #[.int .u64 a] w fun e w' => e = .returned (.int .i64 (truncZ a.toNat)) ∧ w' = w := by
  cases h : nanB a.toNat
  · have o1 := order_rank a.toNat 4890909195324358656 h nan_hi
    have o2 := order_rank a.toNat 14114281232179134464 h nan_lo
    rw [rank_hi] at o1
    rw [rank_lo] at o2
    have g1 : (FloatKind.f64.format.order a.toNat 4890909195324358656 == some Ordering.gt) = decide (4890909195324358656 < rankZ a.toNat) := by rw [o1, cmp_gt]
    have g2 : (FloatKind.f64.format.order a.toNat 4890909195324358656 == some Ordering.eq) = decide (rankZ a.toNat = 4890909195324358656) := by rw [o1, cmp_eq]
    have g3 : (FloatKind.f64.format.order a.toNat 14114281232179134464 == some Ordering.lt) = decide (rankZ a.toNat < -4890909195324358656) := by rw [o2, cmp_lt]
    clear o1 o2
    by_cases c1 : 4890909195324358656 ≤ rankZ a.toNat
    · have ht : Hid (truncZ a.toNat = 9223372036854775807) := trunc_hi _ h c1
      by_cases c2 : 4890909195324358656 < rankZ a.toNat
      · rw [decide_eq_true c2] at g1
        clear g2 g3 c1 c2
        go_enter Try.func31, Try.ntmps31
        go_wp2_with (go_at_call 39; refine (isNaN_any _ _).mono ?_; rintro e w' ⟨rfl, rfl⟩)
        go_ret
        exact ⟨by rw [ht.out]; rfl, rfl⟩
      · rw [decide_eq_false c2] at g1
        rw [decide_eq_true (by omega)] at g2
        clear g3 c1 c2
        go_enter Try.func31, Try.ntmps31
        go_wp2_with (go_at_call 39; refine (isNaN_any _ _).mono ?_; rintro e w' ⟨rfl, rfl⟩)
        go_ret
        exact ⟨by rw [ht.out]; rfl, rfl⟩
    · rw [decide_eq_false (by omega)] at g1
      rw [decide_eq_false (by omega)] at g2
      by_cases c3 : rankZ a.toNat < -4890909195324358656
      · have ht : Hid (truncZ a.toNat = -9223372036854775808) := trunc_lo _ h c3
        rw [decide_eq_true c3] at g3
        clear c1 c3
        go_enter Try.func31, Try.ntmps31
        go_wp2_with (go_at_call 39; refine (isNaN_any _ _).mono ?_; rintro e w' ⟨rfl, rfl⟩)
        go_ret
        exact ⟨by rw [ht.out]; rfl, rfl⟩
      · have hc := conv_in _ h (by omega) (by omega)
        have hr := fun w => run_convert_float_int (P := Try.prog) w 55 3 .f64 .i64 a.toNat (truncZ a.toNat) (by kernel_rfl) Try.underlying3 hc
        rw [decide_eq_false c3] at g3
        clear c1 c3 hc
        go_enter Try.func31, Try.ntmps31
        go_wp2_with (go_at_call 39; refine (isNaN_any _ _).mono ?_; rintro e w' ⟨rfl, rfl⟩)
        go_ret
        exact ⟨rfl, rfl⟩
  · have ht : truncZ a.toNat = 0 := by unfold truncZ; rw [h, if_pos rfl]
    have ht' : Hid (truncZ a.toNat = 0) := ht
    clear ht
    go_enter Try.func31, Try.ntmps31
    go_wp2_with (go_at_call 39; refine (isNaN_any _ _).mono ?_; rintro e w' ⟨rfl, rfl⟩)
    go_ret
    exact ⟨by rw [ht'.out]; rfl, rfl⟩

theorem by_nought : realO (floatBits .quo .f64 ((floatOfInt .f64 1 : Nat) : Int).toNat (9223372036854775808 : Int).toNat) = 18442240474082181120 := by decide +kernel
theorem nine_back : truncZ ((floatOfInt .f64 9 : Nat) : Int).toNat = 9 := by decide +kernel
theorem div7 : intI 3 (-7) 2 = -3 := by decide +kernel
theorem div7b : intB 3 2 = true := by decide
theorem rem0 : intI 4 1 0 = 0 := by decide +kernel
theorem rem0b : intB 4 0 = false := by decide

end Go.Proofs.Ytefcpidegnddiaa
