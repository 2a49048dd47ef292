/- The law padlocklaw01.NumWhole answers true at every input: whole numbers up to 2^53 come back from reals as they were; others as the nearest, in their order. No conditions. -/
import Derived.Test.YtjndndfgommcdaaRows
import Derived.Test.YtjndndfgommcdaaReals
import Derived.Test.YtjndndfgommcdaaWhole
import Derived.WalkKit
import Derived.ProofKit
import Derived.OpenShut
namespace Go.Proofs.Ytjndndfgommcdaa.numWhole
open Go.ChangeShapes Go.WideShapes Go.ChangeAt Go.RowKit
set_option linter.unusedVariables false

theorem own : ownKnob Try.prog.godebug = none := by kernel_rfl

theorem le_one (a b : Int) (h0 : -9223372036854775808 ≤ a) (h : a < b) (h1 : b ≤ 9223372036854775807) : holdsR 8 ((floatOfInt .f64 a : Nat) : Int).toNat ((floatOfInt .f64 b : Nat) : Int).toNat = true := by
  rw [Int.toNat_natCast, Int.toNat_natCast]
  have hm := fromInt_mono a b h0 h h1
  unfold holdsR
  simp only [order_rank _ _ (fromInt_nan a h0 (by omega)) (fromInt_nan b (by omega) h1), cmp_lt, cmp_eq]
  show (decide (rankZ (floatOfInt .f64 a) < rankZ (floatOfInt .f64 b)) || decide (rankZ (floatOfInt .f64 a) = rankZ (floatOfInt .f64 b))) = true
  rw [Bool.or_eq_true, decide_eq_true_eq, decide_eq_true_eq]
  omega
theorem back_is (a : Int) (h0 : -9007199254740992 ≤ a) (h1 : a ≤ 9007199254740992) : truncZ ((floatOfInt .f64 a : Nat) : Int).toNat = a := by
  rw [Int.toNat_natCast]
  exact trunc_back a h0 h1
attribute [local go_sem] run_bits

theorem walk (a0 : Int) (a1 : Int) (w0 : (Lit.int .i64 a0).wf = true) (w1 : (Lit.int .i64 a1).wf = true) (w : World) :
    Calls Try.prog 8 #[.int .i64 a0, .int .i64 a1] w fun e w' => e = .returned (.bool true) ∧ Grown w w' := by
  have b0 := bounds_i64 w0
  have b1 := bounds_i64 w1
  by_cases hlt : a0 < a1
  · have hle := le_one a0 a1 b0.1 hlt b1.2
    by_cases hlo : a0 < -9007199254740992
    · go_enter Try.func8, Try.ntmps8
      go_wp2_with (first | (go_at_call 10; refine (alive_any _).mono ?_; rintro e w' ⟨rfl, n, rfl⟩) | (go_at_call 21; refine (fromInt_any _ _).mono ?_; rintro e w' ⟨rfl, rfl⟩) | (go_at_call 14; refine (real_cmp _ _ _ _ (by decide)).mono ?_; rintro e w' ⟨rfl, rfl⟩; rw [hle]))
      go_ret
      exact ⟨rfl, Grown.refl w⟩
    by_cases hhi : 9007199254740992 < a0
    · go_enter Try.func8, Try.ntmps8
      go_wp2_with (first | (go_at_call 10; refine (alive_any _).mono ?_; rintro e w' ⟨rfl, n, rfl⟩) | (go_at_call 21; refine (fromInt_any _ _).mono ?_; rintro e w' ⟨rfl, rfl⟩) | (go_at_call 14; refine (real_cmp _ _ _ _ (by decide)).mono ?_; rintro e w' ⟨rfl, rfl⟩; rw [hle]))
      go_ret
      exact ⟨rfl, Grown.refl w⟩
    · have hb := back_is a0 (by omega) (by omega)
      go_enter Try.func8, Try.ntmps8
      go_wp2_with (first | (go_at_call 10; refine (alive_any _).mono ?_; rintro e w' ⟨rfl, n, rfl⟩) | (go_at_call 21; refine (fromInt_any _ _).mono ?_; rintro e w' ⟨rfl, rfl⟩) | (go_at_call 14; refine (real_cmp _ _ _ _ (by decide)).mono ?_; rintro e w' ⟨rfl, rfl⟩; rw [hle]) | (go_at_call 19; refine (trunc_any _ _).mono ?_; rintro e w' ⟨rfl, rfl⟩; rw [hb]))
      go_ret
      exact ⟨rfl, Grown.refl w⟩
  · by_cases hlo : a0 < -9007199254740992
    · go_enter Try.func8, Try.ntmps8
      go_wp2_with (first | (go_at_call 10; refine (alive_any _).mono ?_; rintro e w' ⟨rfl, n, rfl⟩) | (go_at_call 21; refine (fromInt_any _ _).mono ?_; rintro e w' ⟨rfl, rfl⟩))
      go_ret
      exact ⟨rfl, Grown.refl w⟩
    by_cases hhi : 9007199254740992 < a0
    · go_enter Try.func8, Try.ntmps8
      go_wp2_with (first | (go_at_call 10; refine (alive_any _).mono ?_; rintro e w' ⟨rfl, n, rfl⟩) | (go_at_call 21; refine (fromInt_any _ _).mono ?_; rintro e w' ⟨rfl, rfl⟩))
      go_ret
      exact ⟨rfl, Grown.refl w⟩
    · have hb := back_is a0 (by omega) (by omega)
      go_enter Try.func8, Try.ntmps8
      go_wp2_with (first | (go_at_call 10; refine (alive_any _).mono ?_; rintro e w' ⟨rfl, n, rfl⟩) | (go_at_call 21; refine (fromInt_any _ _).mono ?_; rintro e w' ⟨rfl, rfl⟩) | (go_at_call 19; refine (trunc_any _ _).mono ?_; rintro e w' ⟨rfl, rfl⟩; rw [hb]))
      go_ret
      exact ⟨rfl, Grown.refl w⟩

set_option maxRecDepth 100000 in
theorem lifted (os : Os) (started : os.Started) (H : Type) (enc : TypeId × Value → H) :
    ReturnsInHanded {} Try.checked os 8 .any (Rows.numWholeSpec.pre6 enc Try.prog Try.f8 Rows.numWholeRow.domain false) (Rows.numWholeSpec.post enc Try.prog Try.f8 false true false false) := by
  refine returnsInHanded_of_change (C := Try.checked) own started (by kernel_rfl) Try.func8
    (ChangeSpec.witness6 (enc := enc) (C := Try.checked) false ⟨#[], #[.int .i64 0, .int .i64 0], []⟩ 8 (by kernel_rfl) (by kernel_rfl) (by kernel_rfl) (by kernel_rfl)) ?_
  intro W base args ds gs before hval0 hW hcnd _
  have hval : ∀ (j : Nat) t v, Try.f8.params[j]? = some t → args[j]? = some v → Value.okWide Try.prog W .any base t v := hval0
  have hW' := hW
  obtain ⟨p, q, hA0, hV, rfl, hfz, hnd⟩ := hW
  have hA : DataW.TrodAll enc Try.prog W 0 (fun _ => true) true Try.f8.params.toList args.toList ds p := hA0
  rw [Try.params8] at hA hval
  obtain ⟨v0, vs0, d0, ds0, p0, q0, hargs, rfl, rfl, h0, r0⟩ := trodAll_cons hA
  obtain ⟨v1, vs1, d1, ds1, p1, q1, rfl, rfl, rfl, h1, r1⟩ := trodAll_cons r0
  obtain ⟨rfl, rfl, rfl⟩ := trodAll_nil r1
  obtain rfl : args = #[v0, v1] := by cases args; simp_all
  obtain ⟨rfl, rfl⟩ := trodVars_none hV
  obtain ⟨a0, rfl, rfl, rfl, w0⟩ := open_int Try.underlying3 (hval 0 3 v0 rfl rfl) h0
  obtain ⟨a1, rfl, rfl, rfl, w1⟩ := open_int Try.underlying3 (hval 1 3 v1 rfl rfl) h1
  clear hA0 hval0
  simp only [List.append_nil] at hW'
  refine (walk a0 a1 w0 w1 W).mono fun e W' ⟨he, hg⟩ => ?_
  subst he
  exact ⟨_, rfl, post_of_same (pa := []) (pv := []) hW' (fun _ _ _ => (trodAll_cons_mk (shut_bool Try.underlying4 _) trodAll_mk0)) (fun sp _ => (trodAll_cons_mk (shut_int Try.underlying3 w0) (trodAll_cons_mk (shut_int Try.underlying3 w1) trodAll_mk0))) (fun _ _ => rfl) rfl
    (hg.frame _) hg.2.1 (ok_one (by kernel_rfl) rfl (okWide_bool_mk Try.underlying4 _))⟩

theorem over : Rows.numWholeRow.holds Try.pinned (OpenSpec.ofChange Rows.numWholeSpec) :=
  OpenClaim.holds_of_wide 8 Try.f8 rfl rfl rfl rfl rfl rfl rfl ⟨rfl, rfl, rfl, rfl, rfl⟩ rfl rfl rfl rfl rfl (by kernel_rfl) Try.func8 (by kernel_rfl)
    (of_decide_eq_true (by kernel_rfl)) (by unfold Func.isWrapper; first | (rw [if_pos (by decide +kernel)]; kernel_rfl) | (rw [if_neg (by decide +kernel)]; exact ⟨rfl, rfl⟩))
    (fun os started H enc _ => lifted os started H enc)

theorem proved : Rows.NumWholeSaid :=
  over
end Go.Proofs.Ytjndndfgommcdaa.numWhole
