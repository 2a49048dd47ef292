/- What Real answers, of package num and by the document (padlockref01), over the landed code: one plain function of op and bits. No conditions but that arguments are of their kinds. -/
import Derived.Test.YtefcpidegnddiaaRefs
namespace Go.Proofs.Ytefcpidegnddiaa
open Go.ChangeShapes Go.WideShapes Go.ChangeAt Go.RowKit
set_option maxHeartbeats 400000
attribute [local go_sem] run_frombits run_bits

theorem rtidyN_any (x : Nat) (w : World) (hx : x < 18446744073709551616) : Calls Try.prog 23 #[.int .u64 (x : Int)] w fun e w' => e = .returned (.int .u64 (tidyN x)) ∧ w' = w := by
  refine (rtidy_any (x : Int) w (by omega) (by omega)).mono ?_
  rintro e w' ⟨rfl, rfl⟩
  refine ⟨?_, rfl⟩
  rw [Int.toNat_natCast]
  unfold tidyN
  cases nanB x <;> rfl

theorem nanOf_lt (w : World) (x y : Nat) : nanOf w x y < 18446744073709551616 := by
  unfold nanOf Question.cut
  simp only
  generalize w.tape w.drawn (Question.nanBits FloatKind.f64 x y) = t
  rcases Nat.mod_two_eq_zero_or_one t with h | h <;> rw [h] <;> omega

theorem bits_lt {op : BinOp} {x y r : Nat} (h : floatBits op .f64 x y = some r) : r < 18446744073709551616 := by
  have := floatBits_wf h
  simpa [Lit.wf] using this

theorem holds5 (x y : Nat) : holdsR 5 x y = equalB x y := by
  unfold equalB
  cases hx : nanB x
  · cases hy : nanB y
    · unfold holdsR; simp only [order_rank x y hx hy, cmp_eq]; rfl
    · simp [holdsR, order_nan_r x y hy]
  · simp [holdsR, order_nan_l x y hx]
theorem holds6 (x y : Nat) : holdsR 6 x y = !equalB x y := by
  unfold equalB
  cases hx : nanB x
  · cases hy : nanB y
    · unfold holdsR; simp only [bne, order_rank x y hx hy, cmp_eq]; rfl
    · simp [holdsR, order_nan_r x y hy]
  · simp [holdsR, order_nan_l x y hx]
theorem holds7 (x y : Nat) : holdsR 7 x y = lessB x y := by
  unfold lessB
  cases hx : nanB x
  · cases hy : nanB y
    · unfold holdsR; simp only [order_rank x y hx hy, cmp_lt]; rfl
    · simp [holdsR, order_nan_r x y hy]
  · simp [holdsR, order_nan_l x y hx]
theorem holds8 (x y : Nat) : holdsR 8 x y = (lessB x y || equalB x y) := by
  unfold lessB equalB
  cases hx : nanB x
  · cases hy : nanB y
    · unfold holdsR; simp only [order_rank x y hx hy, cmp_eq, cmp_lt]; rfl
    · simp [holdsR, order_nan_r x y hy]
  · simp [holdsR, order_nan_l x y hx]

theorem rreal_add (a b : Int) (w : World) : Calls Try.prog 26 #[.int .i64 0, .int .u64 a, .int .u64 b] w fun e w' => e = .returned (.int .u64 (realO (floatBits .add .f64 a.toNat b.toNat))) ∧ ∃ n, w' = w.drewN n := by
  cases h : floatBits .add .f64 a.toNat b.toNat with
  | some r =>
    have hl := bits_lt h
    have hr := fun w => run_float_arith (P := Try.prog) w .add 55 .f64 a.toNat b.toNat r h
    clear h
    go_enter Try.func26, Try.ntmps26
    go_wp2_with (go_at_call 23; refine (rtidyN_any _ _ hl).mono ?_; rintro e w' ⟨rfl, rfl⟩)
    go_ret
    exact ⟨rfl, 0, rfl⟩
  | none =>
    have hl := nanOf_lt w a.toNat b.toNat
    have hr := fun w => run_none (P := Try.prog) .add 55 a.toNat b.toNat (by simp) h w
    clear h
    go_enter Try.func26, Try.ntmps26
    go_wp2_with (go_at_call 23; refine (rtidyN_any _ _ hl).mono ?_; rintro e w' ⟨rfl, rfl⟩)
    go_ret
    exact ⟨by rw [tidyN_nan _ (nanOf_nan _ _ _)]; rfl, 1, rfl⟩

theorem rreal_sub (a b : Int) (w : World) : Calls Try.prog 26 #[.int .i64 1, .int .u64 a, .int .u64 b] w fun e w' => e = .returned (.int .u64 (realO (floatBits .sub .f64 a.toNat b.toNat))) ∧ ∃ n, w' = w.drewN n := by
  cases h : floatBits .sub .f64 a.toNat b.toNat with
  | some r =>
    have hl := bits_lt h
    have hr := fun w => run_float_arith (P := Try.prog) w .sub 55 .f64 a.toNat b.toNat r h
    clear h
    go_enter Try.func26, Try.ntmps26
    go_wp2_with (go_at_call 23; refine (rtidyN_any _ _ hl).mono ?_; rintro e w' ⟨rfl, rfl⟩)
    go_ret
    exact ⟨rfl, 0, rfl⟩
  | none =>
    have hl := nanOf_lt w a.toNat b.toNat
    have hr := fun w => run_none (P := Try.prog) .sub 55 a.toNat b.toNat (by simp) h w
    clear h
    go_enter Try.func26, Try.ntmps26
    go_wp2_with (go_at_call 23; refine (rtidyN_any _ _ hl).mono ?_; rintro e w' ⟨rfl, rfl⟩)
    go_ret
    exact ⟨by rw [tidyN_nan _ (nanOf_nan _ _ _)]; rfl, 1, rfl⟩

theorem rreal_mul (a b : Int) (w : World) : Calls Try.prog 26 #[.int .i64 2, .int .u64 a, .int .u64 b] w fun e w' => e = .returned (.int .u64 (realO (floatBits .mul .f64 a.toNat b.toNat))) ∧ ∃ n, w' = w.drewN n := by
  cases h : floatBits .mul .f64 a.toNat b.toNat with
  | some r =>
    have hl := bits_lt h
    have hr := fun w => run_float_arith (P := Try.prog) w .mul 55 .f64 a.toNat b.toNat r h
    clear h
    go_enter Try.func26, Try.ntmps26
    go_wp2_with (go_at_call 23; refine (rtidyN_any _ _ hl).mono ?_; rintro e w' ⟨rfl, rfl⟩)
    go_ret
    exact ⟨rfl, 0, rfl⟩
  | none =>
    have hl := nanOf_lt w a.toNat b.toNat
    have hr := fun w => run_none (P := Try.prog) .mul 55 a.toNat b.toNat (by simp) h w
    clear h
    go_enter Try.func26, Try.ntmps26
    go_wp2_with (go_at_call 23; refine (rtidyN_any _ _ hl).mono ?_; rintro e w' ⟨rfl, rfl⟩)
    go_ret
    exact ⟨by rw [tidyN_nan _ (nanOf_nan _ _ _)]; rfl, 1, rfl⟩

theorem rreal_quo (a b : Int) (w : World) : Calls Try.prog 26 #[.int .i64 3, .int .u64 a, .int .u64 b] w fun e w' => e = .returned (.int .u64 (realO (floatBits .quo .f64 a.toNat b.toNat))) ∧ ∃ n, w' = w.drewN n := by
  cases h : floatBits .quo .f64 a.toNat b.toNat with
  | some r =>
    have hl := bits_lt h
    have hr := fun w => run_float_arith (P := Try.prog) w .quo 55 .f64 a.toNat b.toNat r h
    clear h
    go_enter Try.func26, Try.ntmps26
    go_wp2_with (go_at_call 23; refine (rtidyN_any _ _ hl).mono ?_; rintro e w' ⟨rfl, rfl⟩)
    go_ret
    exact ⟨rfl, 0, rfl⟩
  | none =>
    have hl := nanOf_lt w a.toNat b.toNat
    have hr := fun w => run_none (P := Try.prog) .quo 55 a.toNat b.toNat (by simp) h w
    clear h
    go_enter Try.func26, Try.ntmps26
    go_wp2_with (go_at_call 23; refine (rtidyN_any _ _ hl).mono ?_; rintro e w' ⟨rfl, rfl⟩)
    go_ret
    exact ⟨by rw [tidyN_nan _ (nanOf_nan _ _ _)]; rfl, 1, rfl⟩


theorem rreal_rem (a b : Int) (w : World) : Calls Try.prog 26 #[.int .i64 4, .int .u64 a, .int .u64 b] w fun e w' => e = .returned (.int .u64 9221120237041090560) ∧ w' = w := by
  go_enter Try.func26, Try.ntmps26
  go_wp2
  go_ret
  exact ⟨rfl, rfl⟩

theorem rreal_cmp (op a b : Int) (w : World) (h : op < 0 ∨ 4 < op) (h0 : 0 ≤ a) (h1 : a ≤ 18446744073709551615) (k0 : 0 ≤ b) (k1 : b ≤ 18446744073709551615) : Calls Try.prog 26 #[.int .i64 op, .int .u64 a, .int .u64 b] w fun e w' => e = .returned (.int .u64 (if holdsR op a.toNat b.toNat then 1 else 0)) ∧ w' = w := by
  by_cases h5 : op = 5
  · subst h5
    rw [holds5]
    cases he : equalB a.toNat b.toNat
    all_goals
      go_enter Try.func26, Try.ntmps26
      go_wp2_with (first | (go_at_call 36; refine (equal_any _ _ _ h0 h1 k0 k1).mono ?_; rintro e w' ⟨rfl, rfl⟩) | (go_at_call 35; refine (yes_any _ _).mono ?_; rintro e w' ⟨rfl, rfl⟩))
      go_ret
      exact ⟨rfl, rfl⟩
  by_cases h6 : op = 6
  · subst h6
    rw [holds6]
    cases he : equalB a.toNat b.toNat
    all_goals
      go_enter Try.func26, Try.ntmps26
      go_wp2_with (first | (go_at_call 36; refine (equal_any _ _ _ h0 h1 k0 k1).mono ?_; rintro e w' ⟨rfl, rfl⟩) | (go_at_call 35; refine (yes_any _ _).mono ?_; rintro e w' ⟨rfl, rfl⟩))
      go_ret
      exact ⟨rfl, rfl⟩
  by_cases h7 : op = 7
  · subst h7
    rw [holds7]
    cases he : lessB a.toNat b.toNat
    all_goals
      go_enter Try.func26, Try.ntmps26
      go_wp2_with (first | (go_at_call 37; refine (less_any _ _ _ h0 h1 k0 k1).mono ?_; rintro e w' ⟨rfl, rfl⟩) | (go_at_call 35; refine (yes_any _ _).mono ?_; rintro e w' ⟨rfl, rfl⟩))
      go_ret
      exact ⟨rfl, rfl⟩
  by_cases h8 : op = 8
  · subst h8
    rw [holds8]
    cases he : lessB a.toNat b.toNat
    · cases he2 : equalB a.toNat b.toNat
      all_goals
        go_enter Try.func26, Try.ntmps26
        go_wp2_with (first | (go_at_call 37; refine (less_any _ _ _ h0 h1 k0 k1).mono ?_; rintro e w' ⟨rfl, rfl⟩) | (go_at_call 36; refine (equal_any _ _ _ h0 h1 k0 k1).mono ?_; rintro e w' ⟨rfl, rfl⟩) | (go_at_call 35; refine (yes_any _ _).mono ?_; rintro e w' ⟨rfl, rfl⟩))
        go_ret
        exact ⟨rfl, rfl⟩
    · go_enter Try.func26, Try.ntmps26
      go_wp2_with (first | (go_at_call 37; refine (less_any _ _ _ h0 h1 k0 k1).mono ?_; rintro e w' ⟨rfl, rfl⟩) | (go_at_call 36; refine (equal_any _ _ _ h0 h1 k0 k1).mono ?_; rintro e w' ⟨rfl, rfl⟩) | (go_at_call 35; refine (yes_any _ _).mono ?_; rintro e w' ⟨rfl, rfl⟩))
      go_ret
      exact ⟨rfl, rfl⟩
  have g5 : (op == 5) = false := beq_eq_false_iff_ne.2 h5
  have g6 : (op == 6) = false := beq_eq_false_iff_ne.2 h6
  have g7 : (op == 7) = false := beq_eq_false_iff_ne.2 h7
  have g8 : (op == 8) = false := beq_eq_false_iff_ne.2 h8
  have e : holdsR op a.toNat b.toNat = false := by simp [holdsR, g5, g6, g7, g8]
  rw [e]
  have g0 : (op == 0) = false := beq_eq_false_iff_ne.2 (by omega)
  have g1 : (op == 1) = false := beq_eq_false_iff_ne.2 (by omega)
  have g2 : (op == 2) = false := beq_eq_false_iff_ne.2 (by omega)
  have g3 : (op == 3) = false := beq_eq_false_iff_ne.2 (by omega)
  have g4 : (op == 4) = false := beq_eq_false_iff_ne.2 (by omega)
  clear h h5 h6 h7 h8 e
  go_enter Try.func26, Try.ntmps26
  go_wp2
  go_ret
  exact ⟨rfl, rfl⟩

/-- What Real answers. -/
def realI (op a b : Int) : Int :=
  if op == 0 then (realO (floatBits .add .f64 a.toNat b.toNat) : Int)
  else if op == 1 then (realO (floatBits .sub .f64 a.toNat b.toNat) : Int)
  else if op == 2 then (realO (floatBits .mul .f64 a.toNat b.toNat) : Int)
  else if op == 3 then (realO (floatBits .quo .f64 a.toNat b.toNat) : Int)
  else if op == 4 then 9221120237041090560
  else if holdsR op a.toNat b.toNat then 1 else 0

theorem realI_cmp (op a b : Int) (h : op < 0 ∨ 4 < op) : realI op a b = if holdsR op a.toNat b.toNat then 1 else 0 := by
  unfold realI
  rw [if_neg (by rw [beq_iff_eq]; omega), if_neg (by rw [beq_iff_eq]; omega), if_neg (by rw [beq_iff_eq]; omega), if_neg (by rw [beq_iff_eq]; omega), if_neg (by rw [beq_iff_eq]; omega)]

theorem real_is (op a b : Int) (w : World) : Calls Try.prog 32 #[.int .i64 op, .int .u64 a, .int .u64 b] w fun e w' => e = .returned (.int .u64 (realI op a b)) ∧ ∃ n, w' = w.drewN n := by
  by_cases h : op < 0 ∨ 4 < op
  · rw [realI_cmp op a b h]
    exact (real_cmp op a b w h).mono fun e w' ⟨he, hw⟩ => ⟨he, 0, hw⟩
  · have : op = 0 ∨ op = 1 ∨ op = 2 ∨ op = 3 ∨ op = 4 := by omega
    rcases this with rfl | rfl | rfl | rfl | rfl
    · exact real_add a b w
    · exact real_sub a b w
    · exact real_mul a b w
    · exact real_quo a b w
    · exact (real_rem a b w).mono fun e w' ⟨he, hw⟩ => ⟨he, 0, hw⟩

theorem rreal_is (op a b : Int) (w : World) (h0 : 0 ≤ a) (h1 : a ≤ 18446744073709551615) (k0 : 0 ≤ b) (k1 : b ≤ 18446744073709551615) : Calls Try.prog 26 #[.int .i64 op, .int .u64 a, .int .u64 b] w fun e w' => e = .returned (.int .u64 (realI op a b)) ∧ ∃ n, w' = w.drewN n := by
  by_cases h : op < 0 ∨ 4 < op
  · rw [realI_cmp op a b h]
    exact (rreal_cmp op a b w h h0 h1 k0 k1).mono fun e w' ⟨he, hw⟩ => ⟨he, 0, hw⟩
  · have : op = 0 ∨ op = 1 ∨ op = 2 ∨ op = 3 ∨ op = 4 := by omega
    rcases this with rfl | rfl | rfl | rfl | rfl
    · exact rreal_add a b w
    · exact rreal_sub a b w
    · exact rreal_mul a b w
    · exact rreal_quo a b w
    · exact (rreal_rem a b w).mono fun e w' ⟨he, hw⟩ => ⟨he, 0, hw⟩
end Go.Proofs.Ytefcpidegnddiaa
