/- The law padlocklaw01.NumOrder answers true at every input: of two reals that are numbers just one of less, equal, and greater holds; what is no number is like nothing, not even itself. No conditions. -/
import Derived.Test.YtjndndfgommcdaaRows
import Derived.Test.YtjndndfgommcdaaReals
import Derived.WalkKit
import Derived.ProofKit
import Derived.OpenShut
namespace Go.Proofs.Ytjndndfgommcdaa.numOrder
open Go.ChangeShapes Go.WideShapes Go.ChangeAt Go.RowKit
set_option linter.unusedVariables false

theorem own : ownKnob Try.prog.godebug = none := by kernel_rfl

theorem odd_all (x y : Nat) (h : nanB x = true ∨ nanB y = true) : holdsR 7 x y = false ∧ holdsR 5 x y = false ∧ holdsR 7 y x = false ∧ holdsR 6 x y = true ∧ holdsR 8 x y = false := by
  have h1 : FloatKind.f64.format.order x y = none := by
    rcases h with h | h
    · exact order_nan_l x y h
    · exact order_nan_r x y h
  have h2 : FloatKind.f64.format.order y x = none := by
    rcases h with h | h
    · exact order_nan_r y x h
    · exact order_nan_l y x h
  unfold holdsR
  rw [h1, h2]
  decide

theorem even_all (x y : Nat) (hx : nanB x = false) (hy : nanB y = false) : holdsR 7 x y = decide (rankZ x < rankZ y) ∧ holdsR 5 x y = decide (rankZ x = rankZ y) ∧ holdsR 7 y x = decide (rankZ y < rankZ x) ∧ holdsR 6 x y = !decide (rankZ x = rankZ y) ∧ holdsR 8 x y = (decide (rankZ x < rankZ y) || decide (rankZ x = rankZ y)) := by
  unfold holdsR
  simp only [bne, order_rank x y hx hy, order_rank y x hy hx, cmp_lt, cmp_eq]
  refine ⟨rfl, rfl, rfl, rfl, rfl⟩

theorem walk (a0 : Int) (a1 : Int) (w0 : (Lit.int .u64 a0).wf = true) (w1 : (Lit.int .u64 a1).wf = true) (w : World) :
    Calls Try.prog 5 #[.int .u64 a0, .int .u64 a1] w fun e w' => e = .returned (.bool true) ∧ Grown w w' := by
  have b0 := bounds_u64 w0
  have b1 := bounds_u64 w1
  by_cases hn : nanB a0.toNat = true ∨ nanB a1.toNat = true
  · obtain ⟨e1, e2, e3, e4, e5⟩ := odd_all _ _ hn
    cases hn0 : nanB a0.toNat
    · have hn1 : nanB a1.toNat = true := by simpa [hn0] using hn
      clear hn
      go_enter Try.func5, Try.ntmps5
      go_wp2_with (first | (go_at_call 10; refine (alive_any _).mono ?_; rintro e w' ⟨rfl, n, rfl⟩) | (go_at_call 14; refine (real_cmp _ _ _ _ (by decide)).mono ?_; rintro e w' ⟨rfl, rfl⟩) | (go_at_call 13; refine (odd_any _ _ (by omega) (by omega)).mono ?_; rintro e w' ⟨rfl, rfl⟩))
      go_ret
      exact ⟨rfl, Grown.refl w⟩
    · clear hn
      go_enter Try.func5, Try.ntmps5
      go_wp2_with (first | (go_at_call 10; refine (alive_any _).mono ?_; rintro e w' ⟨rfl, n, rfl⟩) | (go_at_call 14; refine (real_cmp _ _ _ _ (by decide)).mono ?_; rintro e w' ⟨rfl, rfl⟩) | (go_at_call 13; refine (odd_any _ _ (by omega) (by omega)).mono ?_; rintro e w' ⟨rfl, rfl⟩))
      go_ret
      exact ⟨rfl, Grown.refl w⟩
  · have hn0 : nanB a0.toNat = false := by cases h : nanB a0.toNat <;> simp_all
    have hn1 : nanB a1.toNat = false := by cases h : nanB a1.toNat <;> simp_all
    clear hn
    obtain ⟨e1, e2, e3, e4, e5⟩ := even_all _ _ hn0 hn1
    rcases Int.lt_trichotomy (rankZ a0.toNat) (rankZ a1.toNat) with h | h | h
    · rw [decide_eq_true h] at e1
      rw [decide_eq_false (by omega)] at e2
      rw [decide_eq_false (by omega)] at e3
      rw [decide_eq_false (by omega)] at e4
      rw [decide_eq_true h] at e5
      clear h
      simp only [Bool.not_false, Bool.true_or] at e4 e5
      go_enter Try.func5, Try.ntmps5
      go_wp2_with (first | (go_at_call 10; refine (alive_any _).mono ?_; rintro e w' ⟨rfl, n, rfl⟩) | (go_at_call 14; refine (real_cmp _ _ _ _ (by decide)).mono ?_; rintro e w' ⟨rfl, rfl⟩) | (go_at_call 13; refine (odd_any _ _ (by omega) (by omega)).mono ?_; rintro e w' ⟨rfl, rfl⟩))
      go_ret
      exact ⟨rfl, Grown.refl w⟩
    · rw [decide_eq_false (by omega)] at e1
      rw [decide_eq_true h] at e2
      rw [decide_eq_false (by omega)] at e3
      rw [decide_eq_true h] at e4
      rw [decide_eq_false (by omega), decide_eq_true h] at e5
      clear h
      simp only [Bool.not_true, Bool.or_true] at e4 e5
      go_enter Try.func5, Try.ntmps5
      go_wp2_with (first | (go_at_call 10; refine (alive_any _).mono ?_; rintro e w' ⟨rfl, n, rfl⟩) | (go_at_call 14; refine (real_cmp _ _ _ _ (by decide)).mono ?_; rintro e w' ⟨rfl, rfl⟩) | (go_at_call 13; refine (odd_any _ _ (by omega) (by omega)).mono ?_; rintro e w' ⟨rfl, rfl⟩))
      go_ret
      exact ⟨rfl, Grown.refl w⟩
    · rw [decide_eq_false (by omega)] at e1
      rw [decide_eq_false (by omega)] at e2
      rw [decide_eq_true h] at e3
      rw [decide_eq_false (by omega)] at e4
      rw [decide_eq_false (by omega), decide_eq_false (by omega)] at e5
      clear h
      simp only [Bool.not_false, Bool.or_false] at e4 e5
      go_enter Try.func5, Try.ntmps5
      go_wp2_with (first | (go_at_call 10; refine (alive_any _).mono ?_; rintro e w' ⟨rfl, n, rfl⟩) | (go_at_call 14; refine (real_cmp _ _ _ _ (by decide)).mono ?_; rintro e w' ⟨rfl, rfl⟩) | (go_at_call 13; refine (odd_any _ _ (by omega) (by omega)).mono ?_; rintro e w' ⟨rfl, rfl⟩))
      go_ret
      exact ⟨rfl, Grown.refl w⟩

set_option maxRecDepth 100000 in
theorem lifted (os : Os) (started : os.Started) (H : Type) (enc : TypeId × Value → H) :
    ReturnsInHanded {} Try.checked os 5 .any (Rows.numOrderSpec.pre6 enc Try.prog Try.f5 Rows.numOrderRow.domain false) (Rows.numOrderSpec.post enc Try.prog Try.f5 false true false false) := by
  refine returnsInHanded_of_change (C := Try.checked) own started (by kernel_rfl) Try.func5
    (ChangeSpec.witness6 (enc := enc) (C := Try.checked) false ⟨#[], #[.int .u64 0, .int .u64 0], []⟩ 8 (by kernel_rfl) (by kernel_rfl) (by kernel_rfl) (by kernel_rfl)) ?_
  intro W base args ds gs before hval0 hW hcnd _
  have hval : ∀ (j : Nat) t v, Try.f5.params[j]? = some t → args[j]? = some v → Value.okWide Try.prog W .any base t v := hval0
  have hW' := hW
  obtain ⟨p, q, hA0, hV, rfl, hfz, hnd⟩ := hW
  have hA : DataW.TrodAll enc Try.prog W 0 (fun _ => true) true Try.f5.params.toList args.toList ds p := hA0
  rw [Try.params5] at hA hval
  obtain ⟨v0, vs0, d0, ds0, p0, q0, hargs, rfl, rfl, h0, r0⟩ := trodAll_cons hA
  obtain ⟨v1, vs1, d1, ds1, p1, q1, rfl, rfl, rfl, h1, r1⟩ := trodAll_cons r0
  obtain ⟨rfl, rfl, rfl⟩ := trodAll_nil r1
  obtain rfl : args = #[v0, v1] := by cases args; simp_all
  obtain ⟨rfl, rfl⟩ := trodVars_none hV
  obtain ⟨a0, rfl, rfl, rfl, w0⟩ := open_int Try.underlying28 (hval 0 28 v0 rfl rfl) h0
  obtain ⟨a1, rfl, rfl, rfl, w1⟩ := open_int Try.underlying28 (hval 1 28 v1 rfl rfl) h1
  clear hA0 hval0
  simp only [List.append_nil] at hW'
  refine (walk a0 a1 w0 w1 W).mono fun e W' ⟨he, hg⟩ => ?_
  subst he
  exact ⟨_, rfl, post_of_same (pa := []) (pv := []) hW' (fun _ _ _ => (trodAll_cons_mk (shut_bool Try.underlying4 _) trodAll_mk0)) (fun sp _ => (trodAll_cons_mk (shut_int Try.underlying28 w0) (trodAll_cons_mk (shut_int Try.underlying28 w1) trodAll_mk0))) (fun _ _ => rfl) rfl
    (hg.frame _) hg.2.1 (ok_one (by kernel_rfl) rfl (okWide_bool_mk Try.underlying4 _))⟩

theorem over : Rows.numOrderRow.holds Try.pinned (OpenSpec.ofChange Rows.numOrderSpec) :=
  OpenClaim.holds_of_wide 5 Try.f5 rfl rfl rfl rfl rfl rfl rfl ⟨rfl, rfl, rfl, rfl, rfl⟩ rfl rfl rfl rfl rfl (by kernel_rfl) Try.func5 (by kernel_rfl)
    (of_decide_eq_true (by kernel_rfl)) (by unfold Func.isWrapper; first | (rw [if_pos (by decide +kernel)]; kernel_rfl) | (rw [if_neg (by decide +kernel)]; exact ⟨rfl, rfl⟩))
    (fun os started H enc _ => lifted os started H enc)

theorem proved : Rows.NumOrderSaid :=
  over
end Go.Proofs.Ytjndndfgommcdaa.numOrder
