/- The law padlocklaw02.PenCuts answers true at every input: a number's bytes that break off are no number, and the eye is bad for good. No conditions. -/
import Derived.Test.YtneifmjaploflaaRows
import Derived.Test.YtneifmjaploflaaMath
import Derived.Test.YtneifmjaploflaaFirst
import Derived.Test.YtneifmjaploflaaEyes
import Derived.Test.YtneifmjaploflaaApps
import Derived.Test.YtneifmjaploflaaPens
import Derived.Test.YtneifmjaploflaaAlive
import Derived.WalkKit
import Derived.ProofKit
import Derived.OpenShut
import Derived.ShutString
import Derived.ChangeOld
import Derived.Below
import Derived.Deep.QuietTactic
import Derived.BigQuiet
import Derived.Deep.CutBlock
import Derived.Deep.CutRange
import Derived.Deep.DeepCutAuto
namespace Go.Proofs.Ytneifmjaploflaa.penCuts
open Go.ChangeShapes Go.WideShapes Go.ChangeAt Go.RowKit
open Go.ChangeMaps (open_string shut_string)
set_option linter.unusedVariables false

theorem own : ownKnob Try.prog.godebug = none := by kernel_rfl
theorem laidOut : laidOutB Try.prog = true := by kernel_rfl

open PenMath

set_option maxRecDepth 100000 in
set_option maxHeartbeats 400000 in
theorem walk (a0 a1 : Int) (w : World) (w0 : (Lit.int .u64 a0).wf = true) (w1 : (Lit.int .i64 a1).wf = true) :
    Calls Try.prog 8 #[.int .u64 a0, .int .i64 a1] w fun e w' => e = .returned (.bool true) ∧ Below w.heap.size w w' := by
  have b0 := bounds_u64 w0
  have b1 := bounds_i64 w1
  go_enter Try.func8, Try.ntmps8
  go_wp2_with fail
  refine (alive_any _).mono ?_
  rintro r w1 ⟨rfl, hb1⟩
  go_wp2_with fail
  have hn := pen_new (w1.alloc (.cells #[.slice none 0 0] 26)) (w1.heap.size + 1) w1.heap.size (heap_alloc_new _ _) (by omega) (by simp)
  refine (penNat_int _ _ _ _ _ _ hn (by omega) (by omega) (by simp)).mono ?_
  rintro r w2 ⟨rfl, v2, h2, t2, l2⟩
  have B2 : Hid (Below w.heap.size w w2) := by
    have hs := hb1.size
    refine hb1.trans ((((Below.refl _ _).alloc hs _)).trans (t2.below (by simp; omega) ?_))
    intro k hk
    rcases hk with rfl | hk
    · exact hs
    · simp [Value.ownBlock] at hk
  rw [List.nil_append] at h2
  clear hn hb1 t2 l2
  go_wp2_with fail
  refine (penBytes_any _ _ _ _ _ h2).mono ?_
  rintro r w' ⟨rfl, rfl⟩
  have hcut := rd_cut a0.toNat a1.toNat
  have hten := natB_ten a0.toNat (by omega)
  generalize natB a0.toNat = l at *
  have hz : Hid ((bstr l).size = l.length) := bstr_size l
  have hx : Hid ((bstr l).extract 0 a1.toNat = bstr (l.take a1.toNat)) := extract0_bstr _ _
  by_cases hc : a1 < 0 ∨ (l.length : Int) ≤ a1
  · have hc' : a1 < 0 ∨ ((bstr l).size : Int) ≤ a1 := by rw [hz.out]; exact hc
    clear hcut hc
    rcases hc' with h | h
    · go_wp2
      go_ret
      exact ⟨rfl, B2.out⟩
    · by_cases h' : a1 < 0
      all_goals
        go_wp2
        go_ret
        exact ⟨rfl, B2.out⟩
  · have h1 : 0 ≤ a1 := by omega
    have h3 : a1 < ((bstr l).size : Int) := by rw [hz.out]; omega
    have hr : Hid (rd (l.take a1.toNat) = none) := hcut (by omega)
    clear hc hcut
    obtain ⟨k, rfl⟩ := Int.eq_ofNat_of_zero_le h1
    simp only [Int.toNat_natCast] at *
    go_wp2_with fail
    rw [hx.out]
    have hlen : (l.take k).length ≤ 10 := by rw [List.length_take]; omega
    generalize l.take k = m at *
    clear hx hz h2
    refine (of_any _ _).mono ?_
    rintro r w3 ⟨rfl, e3, b3, s3⟩
    have n3 : (Eye.mk m false).nat 18446744073709551615 = (0, ⟨m, true⟩) := nat_none _ _ rfl hr.out
    go_wp2_with fail
    refine (eyeNat_int _ _ _ _ e3 (by simp only [maxLen]; omega) (by decide)).mono ?_
    rintro r w4 ⟨rfl, e4, t4⟩
    rw [show (18446744073709551615 : Int).toNat = 18446744073709551615 from rfl, n3] at e4 ⊢
    go_wp2_with fail
    refine (bad_any _ _ _ e4.c1).mono ?_
    rintro r w5 ⟨rfl, rfl⟩
    go_wp2_with fail
    refine (eyeNat_int _ _ _ _ e4 (by simp only [maxLen]; omega) (by decide)).mono ?_
    rintro r w6 ⟨rfl, e6, t6⟩
    rw [show (18446744073709551615 : Int).toNat = 18446744073709551615 from rfl, nat_was _ _ rfl] at e6 ⊢
    go_wp2_with fail
    refine (eyeText_any _ _ _ _ e6 (by simp only; omega) (by decide) (by decide)).mono ?_
    rintro r w7 ⟨rfl, e7, t7⟩
    rw [Eye.text_bad] at e7 ⊢
    rw [show bstr ([], (Eye.mk m true)).1 = ⟨#[]⟩ from rfl]
    go_wp2_with fail
    refine (done_any _ _ _ e7).mono ?_
    rintro r w8 ⟨rfl, rfl⟩
    have F : Hid (Below w.heap.size w w8) := by
      have hs := B2.out.size
      refine B2.out.trans ((b3.mono hs).trans ?_)
      refine ((t4.trans t6).trans t7).below (by have := b3.size; omega) ?_
      rintro k rfl
      exact hs
    clear e3 b3 e4 t4 e6 t6 e7 t7 B2 n3 hr
    go_wp2
    go_ret
    exact ⟨rfl, F.out⟩

set_option maxRecDepth 100000 in
theorem lifted (os : Os) (started : os.Started) (H : Type) (enc : TypeId × Value → H) :
    ReturnsInHanded {} Try.checked os 8 .any (Rows.penCutsSpec.pre6 enc Try.prog Try.f8 Rows.penCutsRow.domain false) (Rows.penCutsSpec.post enc Try.prog Try.f8 false true false false) := by
  refine returnsInHanded_of_change (C := Try.checked) own started (by kernel_rfl) Try.func8
    (ChangeSpec.witness6 (enc := enc) (C := Try.checked) false ⟨#[], #[.int .u64 0, .int .i64 0], []⟩ 8 (by kernel_rfl) (by kernel_rfl) (by kernel_rfl) (by kernel_rfl)) ?_
  intro W base args ds gs before hval0 hW hcnd _
  have hval : ∀ (j : Nat) t v, Try.f8.params[j]? = some t → args[j]? = some v → Value.okWide Try.prog W .any base t v := hval0
  have hW' := hW
  obtain ⟨p, q, hA0, hV, rfl, hfz, hnd⟩ := hW
  have hA : DataW.TrodAll enc Try.prog W 0 (fun _ => true) true Try.f8.params.toList args.toList ds p := hA0
  rw [Try.params8] at hA hval
  obtain ⟨v0, vs0, d0, ds0, p0, q0, hargs, rfl, rfl, h0, r0⟩ := trodAll_cons hA
  obtain ⟨v1, vs1, d1, ds1, p1, q1, rfl, rfl, rfl, h1, r1⟩ := trodAll_cons r0
  obtain ⟨rfl, rfl, rfl⟩ := trodAll_nil r1
  obtain rfl : args = #[v0, v1] := by cases args; simp_all
  obtain ⟨rfl, rfl⟩ := trodVars_none hV
  obtain ⟨a0, rfl, rfl, rfl, w0⟩ := open_int Try.underlying28 (hval 0 28 v0 rfl rfl) h0
  obtain ⟨a1, rfl, rfl, rfl, w1⟩ := open_int Try.underlying3 (hval 1 3 v1 rfl rfl) h1
  clear hA0 hval0
  refine (walk a0 a1 W w0 w1).mono fun e W' ⟨he, bel⟩ => ?_
  subst he
  exact ⟨_, rfl, _, _, _, [], _, [], hW', trodAll_mk1 (shut_bool Try.underlying4 _), (trodAll_cons_mk (shut_int Try.underlying28 w0) (trodAll_cons_mk (shut_int Try.underlying3 w1) trodAll_mk0)), rfl, bel.frame _, fun h => by cases h⟩

theorem over : Rows.penCutsRow.holds Try.pinned (OpenSpec.ofChange Rows.penCutsSpec) :=
  OpenClaim.holds_of_wide 8 Try.f8 rfl rfl rfl rfl rfl rfl rfl ⟨rfl, rfl, rfl, rfl, rfl⟩ rfl rfl rfl rfl rfl (by kernel_rfl) Try.func8 (by kernel_rfl)
    (of_decide_eq_true (by kernel_rfl)) (by unfold Func.isWrapper; first | (rw [if_pos (by decide +kernel)]; kernel_rfl) | (rw [if_neg (by decide +kernel)]; exact ⟨rfl, rfl⟩))
    (fun os started H enc _ => lifted os started H enc)

theorem proved : Rows.PenCutsSaid :=
  over
end Go.Proofs.Ytneifmjaploflaa.penCuts
