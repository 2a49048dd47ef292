/- Contracts of the document's answers on reals (padlockref01), over the landed code: each is a plain function of bits. No conditions but that arguments are of their kinds. -/
import Derived.Test.YtefcpidegnddiaaReals
namespace Go.Proofs.Ytefcpidegnddiaa
open Go.ChangeShapes Go.WideShapes Go.ChangeAt Go.RowKit
set_option maxHeartbeats 400000
attribute [local go_sem] run_frombits run_bits

theorem rank_neg (a : Int) (h0 : 0 ≤ a) (h1 : a ≤ 18446744073709551615) (h : (a / 9223372036854775808 == 1) = true) : wrap64 (-wrap64 (IntKind.u64.wrap (a * 2) / 2)) = rankZ a.toNat := by
  rw [beq_iff_eq] at h
  unfold rankZ
  rw [if_pos (by rw [beq_iff_eq]; omega), IntKind.wrap_u64]
  unfold wrap64
  omega
theorem rank_pos (a : Int) (h0 : 0 ≤ a) (h1 : a ≤ 18446744073709551615) (h : (a / 9223372036854775808 == 1) = false) : wrap64 (IntKind.u64.wrap (a * 2) / 2) = rankZ a.toNat := by
  rw [beq_eq_false_iff_ne] at h
  unfold rankZ
  rw [if_neg (by rw [beq_iff_eq]; omega), IntKind.wrap_u64]
  unfold wrap64
  omega

theorem rank_any (a : Int) (w : World) (h0 : 0 ≤ a) (h1 : a ≤ 18446744073709551615) : Calls Try.prog 45 #[.int .u64 a] w fun e w' => e = .returned (.int .i64 (rankZ a.toNat)) ∧ w' = w := by
  cases h : (a / 9223372036854775808 == 1)
  · go_enter Try.func45, Try.ntmps45
    go_wp2
    go_ret
    exact ⟨congrArg (fun b => Ending.returned (Value.int .i64 b)) (rank_pos a h0 h1 h), rfl⟩
  · go_enter Try.func45, Try.ntmps45
    go_wp2
    go_ret
    exact ⟨congrArg (fun b => Ending.returned (Value.int .i64 b)) (rank_neg a h0 h1 h), rfl⟩

/-- Is a real less than another one, by the document? -/
def lessB (x y : Nat) : Bool := !nanB x && (!nanB y && decide (rankZ x < rankZ y))
def equalB (x y : Nat) : Bool := !nanB x && (!nanB y && decide (rankZ x = rankZ y))

theorem less_any (a b : Int) (w : World) (h0 : 0 ≤ a) (h1 : a ≤ 18446744073709551615) (k0 : 0 ≤ b) (k1 : b ≤ 18446744073709551615) : Calls Try.prog 37 #[.int .u64 a, .int .u64 b] w fun e w' => e = .returned (.bool (lessB a.toNat b.toNat)) ∧ w' = w := by
  cases ha : nanB a.toNat
  · cases hb : nanB b.toNat
    all_goals
      go_enter Try.func37, Try.ntmps37
      go_wp2_with (first | (go_at_call 22; refine (odd_any _ _ (by omega) (by omega)).mono ?_; rintro e w' ⟨rfl, rfl⟩) | (go_at_call 45; refine (rank_any _ _ (by omega) (by omega)).mono ?_; rintro e w' ⟨rfl, rfl⟩))
      go_ret
      exact ⟨by simp [lessB, ha, hb], rfl⟩
  · go_enter Try.func37, Try.ntmps37
    go_wp2_with (first | (go_at_call 22; refine (odd_any _ _ (by omega) (by omega)).mono ?_; rintro e w' ⟨rfl, rfl⟩) | (go_at_call 45; refine (rank_any _ _ (by omega) (by omega)).mono ?_; rintro e w' ⟨rfl, rfl⟩))
    go_ret
    exact ⟨by simp [lessB, ha], rfl⟩

theorem equal_any (a b : Int) (w : World) (h0 : 0 ≤ a) (h1 : a ≤ 18446744073709551615) (k0 : 0 ≤ b) (k1 : b ≤ 18446744073709551615) : Calls Try.prog 36 #[.int .u64 a, .int .u64 b] w fun e w' => e = .returned (.bool (equalB a.toNat b.toNat)) ∧ w' = w := by
  cases ha : nanB a.toNat
  · cases hb : nanB b.toNat
    all_goals
      go_enter Try.func36, Try.ntmps36
      go_wp2_with (first | (go_at_call 22; refine (odd_any _ _ (by omega) (by omega)).mono ?_; rintro e w' ⟨rfl, rfl⟩) | (go_at_call 45; refine (rank_any _ _ (by omega) (by omega)).mono ?_; rintro e w' ⟨rfl, rfl⟩))
      go_ret
      exact ⟨by simp [equalB, ha, hb, Bool.beq_eq_decide_eq], rfl⟩
  · go_enter Try.func36, Try.ntmps36
    go_wp2_with (first | (go_at_call 22; refine (odd_any _ _ (by omega) (by omega)).mono ?_; rintro e w' ⟨rfl, rfl⟩) | (go_at_call 45; refine (rank_any _ _ (by omega) (by omega)).mono ?_; rintro e w' ⟨rfl, rfl⟩))
    go_ret
    exact ⟨by simp [equalB, ha], rfl⟩

theorem trunc_in (a : Int) (h : nanB a.toNat = false) (e : Nat) (he : a.toNat % 9223372036854775808 / 4503599627370496 = e) (hl : (e : Int) - 1075 < 11) :
    truncZ a.toNat = if negB a.toNat then -(wholeN (a.toNat % 9223372036854775808) : Int) else (wholeN (a.toNat % 9223372036854775808) : Int) := by
  unfold truncZ
  rw [h, if_neg (by decide), if_pos (by omega)]
theorem trunc_out (a : Int) (h : nanB a.toNat = false) (e : Nat) (he : a.toNat % 9223372036854775808 / 4503599627370496 = e) (hl : 11 ≤ (e : Int) - 1075) :
    truncZ a.toNat = if negB a.toNat then -9223372036854775808 else 9223372036854775807 := by
  unfold truncZ
  rw [h, if_neg (by decide), if_neg (by omega)]
theorem neg_yes (a : Int) (h0 : 0 ≤ a) (h1 : a ≤ 18446744073709551615) (h : (a / 9223372036854775808 == 1) = true) : negB a.toNat = true := by
  rw [beq_iff_eq] at h
  unfold negB
  rw [beq_iff_eq]
  omega
theorem neg_not (a : Int) (h0 : 0 ≤ a) (h : (a / 9223372036854775808 == 1) = false) (h1 : a ≤ 18446744073709551615) : negB a.toNat = false := by
  rw [beq_eq_false_iff_ne] at h
  unfold negB
  rw [beq_eq_false_iff_ne]
  omega

theorem shr_val (a : Int) (e f : Nat) (he : a.toNat % 9223372036854775808 / 4503599627370496 = e) (hf : a.toNat % 4503599627370496 = f) (h1 : ((e : Int) == 0) = false) (h2 : (e : Int) - 1075 < 0) :
    wrap64 (((f : Int) + 4503599627370496) / 2 ^ (-((e : Int) - 1075)).toNat) = (wholeN (a.toNat % 9223372036854775808) : Int) := by
  rw [beq_eq_false_iff_ne] at h1
  have hw := whole_right (a.toNat % 9223372036854775808) (by omega) (by omega)
  have hm : a.toNat % 9223372036854775808 % 4503599627370496 = f := by omega
  rw [he, hm] at hw
  have e1 : (-((e : Int) - 1075)).toNat = 1075 - e := by omega
  rw [e1, show ((f : Int) + 4503599627370496) = ((f + 4503599627370496 : Nat) : Int) by omega, show (2 : Int) ^ (1075 - e) = ((2 ^ (1075 - e) : Nat) : Int) by rw [Int.natCast_pow]; rfl, ← Int.natCast_ediv, ← hw]
  apply wrap64_is
  have hlt := wholeN_lt (a.toNat % 9223372036854775808) (by omega)
  omega

theorem shl_val (a : Int) (e f : Nat) (he : a.toNat % 9223372036854775808 / 4503599627370496 = e) (hf : a.toNat % 4503599627370496 = f) (h1 : 0 ≤ (e : Int) - 1075) (h2 : (e : Int) - 1075 < 11) :
    wrap64 (IntKind.u64.wrap (((f : Int) + 4503599627370496) * 2 ^ (e - 1075))) = (wholeN (a.toNat % 9223372036854775808) : Int) := by
  have hw := whole_left (a.toNat % 9223372036854775808) (by omega)
  have hm : a.toNat % 9223372036854775808 % 4503599627370496 = f := by omega
  rw [he, hm] at hw
  rw [show ((f : Int) + 4503599627370496) = ((f + 4503599627370496 : Nat) : Int) by omega, show (2 : Int) ^ (e - 1075) = ((2 ^ (e - 1075) : Nat) : Int) by rw [Int.natCast_pow]; rfl, ← Int.natCast_mul, ← hw]
  have hlt := wholeN_lt (a.toNat % 9223372036854775808) (by omega)
  rw [IntKind.wrap_u64, Int.emod_eq_of_lt (by omega) (by omega)]
  apply wrap64_is
  omega

theorem shr_neg (a : Int) (h0 : 0 ≤ a) (h1 : a ≤ 18446744073709551615) (h : nanB a.toNat = false) (e f : Nat) (he : a.toNat % 9223372036854775808 / 4503599627370496 = e) (hf : a.toNat % 4503599627370496 = f) (k1 : ((e : Int) == 0) = false) (k2 : (e : Int) - 1075 < 0) (k3 : (a / 9223372036854775808 == 1) = true) : wrap64 (-wrap64 (((f : Int) + 4503599627370496) / 2 ^ (-((e : Int) - 1075)).toNat)) = truncZ a.toNat := by
  have hlt : wholeN (a.toNat % 9223372036854775808) < 9223372036854775808 := wholeN_lt _ (by omega)
  rw [shr_val a e f he hf k1 k2, trunc_in a h e he (by omega), neg_yes a h0 h1 k3, if_pos rfl]
  apply wrap64_is
  omega
theorem shr_pos (a : Int) (h0 : 0 ≤ a) (h1 : a ≤ 18446744073709551615) (h : nanB a.toNat = false) (e f : Nat) (he : a.toNat % 9223372036854775808 / 4503599627370496 = e) (hf : a.toNat % 4503599627370496 = f) (k1 : ((e : Int) == 0) = false) (k2 : (e : Int) - 1075 < 0) (k3 : (a / 9223372036854775808 == 1) = false) : wrap64 (((f : Int) + 4503599627370496) / 2 ^ (-((e : Int) - 1075)).toNat) = truncZ a.toNat := by
  rw [shr_val a e f he hf k1 k2, trunc_in a h e he (by omega), neg_not a h0 k3 h1, if_neg Bool.false_ne_true]

theorem shl_neg (a : Int) (h0 : 0 ≤ a) (h1 : a ≤ 18446744073709551615) (h : nanB a.toNat = false) (e f : Nat) (he : a.toNat % 9223372036854775808 / 4503599627370496 = e) (hf : a.toNat % 4503599627370496 = f) (k1 : 0 ≤ (e : Int) - 1075) (k2 : (e : Int) - 1075 < 11) (k3 : (a / 9223372036854775808 == 1) = true) : wrap64 (-wrap64 (IntKind.u64.wrap (((f : Int) + 4503599627370496) * 2 ^ (e - 1075)))) = truncZ a.toNat := by
  have hlt : wholeN (a.toNat % 9223372036854775808) < 9223372036854775808 := wholeN_lt _ (by omega)
  rw [shl_val a e f he hf k1 k2, trunc_in a h e he (by omega), neg_yes a h0 h1 k3, if_pos rfl]
  apply wrap64_is
  omega
theorem shl_pos (a : Int) (h0 : 0 ≤ a) (h1 : a ≤ 18446744073709551615) (h : nanB a.toNat = false) (e f : Nat) (he : a.toNat % 9223372036854775808 / 4503599627370496 = e) (hf : a.toNat % 4503599627370496 = f) (k1 : 0 ≤ (e : Int) - 1075) (k2 : (e : Int) - 1075 < 11) (k3 : (a / 9223372036854775808 == 1) = false) : wrap64 (IntKind.u64.wrap (((f : Int) + 4503599627370496) * 2 ^ (e - 1075))) = truncZ a.toNat := by
  rw [shl_val a e f he hf k1 k2, trunc_in a h e he (by omega), neg_not a h0 k3 h1, if_neg Bool.false_ne_true]

theorem ret_i64 {a b : Int} (h : a = b) : Ending.returned (.int .i64 a) = .returned (.int .i64 b) := by rw [h]

theorem rtrunc_any (a : Int) (w : World) (h0 : 0 ≤ a) (h1 : a ≤ 18446744073709551615) : Calls Try.prog 25 #[.int .u64 a] w fun e w' => e = .returned (.int .i64 (truncZ a.toNat)) ∧ w' = w := by
  cases h : nanB a.toNat
  · obtain ⟨E, HE⟩ : ∃ E : Nat, Hid (a.toNat % 9223372036854775808 / 4503599627370496 = E) := ⟨_, rfl⟩
    obtain ⟨F, HF⟩ : ∃ F : Nat, Hid (a.toNat % 4503599627370496 = F) := ⟨_, rfl⟩
    have hE : IntKind.u64.wrap (a * 2) / 9007199254740992 = (E : Int) := by have := HE.out; rw [IntKind.wrap_u64]; omega
    have hF : IntKind.u64.wrap (a * 4096) / 4096 = (F : Int) := by have := HF.out; rw [IntKind.wrap_u64]; omega
    have e0 : E ≤ 2047 := by have := HE.out; omega
    have f0 : F < 4503599627370496 := by have := HF.out; omega
    go_enter Try.func25, Try.ntmps25
    go_wp2_with (go_at_call 22; refine (odd_any _ _ h0 h1).mono ?_; rintro e w' ⟨rfl, rfl⟩)
    all_goals go_ret
    · have k1 := ‹((E : Int) == 0) = true›
      refine ⟨ret_i64 ?_, rfl⟩
      rw [beq_iff_eq] at k1
      rw [trunc_in a h E HE.out (by omega), whole_small _ (by rw [HE.out]; omega)]
      split <;> rfl
    · refine ⟨ret_i64 ?_, rfl⟩
      rw [trunc_out a h E HE.out ‹_›, neg_yes a h0 h1 ‹_›]; rfl
    · refine ⟨ret_i64 ?_, rfl⟩
      rw [trunc_out a h E HE.out ‹_›, neg_not a h0 ‹_› h1]; rfl
    · refine ⟨ret_i64 ?_, rfl⟩
      have k2 := ‹(E : Int) - 1075 ≤ -53›
      rw [trunc_in a h E HE.out (by omega), whole_small _ (by rw [HE.out]; omega)]
      split <;> rfl
    · exact ⟨congrArg (fun b => Ending.returned (Value.int .i64 b)) (shr_neg a h0 h1 h E F HE.out HF.out ‹((E : Int) == 0) = false› (by omega) ‹_›), rfl⟩
    · exact ⟨congrArg (fun b => Ending.returned (Value.int .i64 b)) (shr_pos a h0 h1 h E F HE.out HF.out ‹((E : Int) == 0) = false› (by omega) ‹_›), rfl⟩
    · exact ⟨congrArg (fun b => Ending.returned (Value.int .i64 b)) (shl_neg a h0 h1 h E F HE.out HF.out (by omega) (by omega) ‹_›), rfl⟩
    · exact ⟨congrArg (fun b => Ending.returned (Value.int .i64 b)) (shl_pos a h0 h1 h E F HE.out HF.out (by omega) (by omega) ‹_›), rfl⟩
  · have ht : truncZ a.toNat = 0 := by unfold truncZ; rw [h, if_pos rfl]
    go_enter Try.func25, Try.ntmps25
    go_wp2_with (go_at_call 22; refine (odd_any _ _ h0 h1).mono ?_; rintro e w' ⟨rfl, rfl⟩)
    go_ret
    exact ⟨by rw [ht]; rfl, rfl⟩
end Go.Proofs.Ytefcpidegnddiaa
