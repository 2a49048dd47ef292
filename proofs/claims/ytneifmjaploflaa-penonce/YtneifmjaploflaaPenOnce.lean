/- The law padlocklaw02.PenOnce answers true at every input: what is read of any bytes is put as just these. No conditions. -/
import Derived.Test.YtneifmjaploflaaRows
import Derived.Test.YtneifmjaploflaaMath
import Derived.Test.YtneifmjaploflaaFirst
import Derived.Test.YtneifmjaploflaaEyes
import Derived.Test.YtneifmjaploflaaApps
import Derived.Test.YtneifmjaploflaaPens
import Derived.Test.YtneifmjaploflaaAlive
import Derived.WalkKit
import Derived.ProofKit
import Derived.OpenShut
import Derived.ShutString
import Derived.ChangeOld
import Derived.Below
import Derived.Deep.QuietTactic
import Derived.BigQuiet
import Derived.Deep.CutBlock
import Derived.Deep.CutRange
import Derived.Deep.DeepCutAuto
namespace Go.Proofs.Ytneifmjaploflaa.penOnce
open Go.ChangeShapes Go.WideShapes Go.ChangeAt Go.RowKit
open Go.ChangeMaps (open_string shut_string)
set_option linter.unusedVariables false

theorem own : ownKnob Try.prog.godebug = none := by kernel_rfl
theorem laidOut : laidOutB Try.prog = true := by kernel_rfl

open PenMath

theorem nat_keeps (e : Eye) (m : Nat) (hb : e.bad = false) : ((e.nat m).2.bad = true ∧ (e.nat m).2.rest = e.rest) ∨ ((e.nat m).2.bad = false ∧ e.rest = natB (e.nat m).1 ++ (e.nat m).2.rest) := by
  cases hr : rd e.rest with
  | none => rw [nat_none e m hb hr]; exact .inl ⟨rfl, rfl⟩
  | some n =>
    by_cases hn : n ≤ m
    · rw [nat_good e m n hb hr hn]
      obtain ⟨_, q, hq⟩ := rd_is _ _ hr
      refine .inr ⟨rfl, ?_⟩
      simp only
      conv => lhs; rw [hq]
      rw [hq]; simp
    · rw [nat_above e m n hb hr (by omega)]; exact .inl ⟨rfl, rfl⟩

theorem eq_pre (l r : List UInt8) : (((bstr (l ++ r)).extract 0 (bstr l).size).toList == (bstr l).toList) = true := by
  rw [extract0_bstr, bstr_size, toList_bstr, toList_bstr]; simp

set_option maxRecDepth 100000 in
set_option maxHeartbeats 1000000 in
theorem walk (a0 : ByteArray) (w : World) (w0 : a0.size ≤ maxLen) :
    Calls Try.prog 6 #[.string a0] w fun e w' => e = .returned (.bool true) ∧ Below w.heap.size w w' := by
  unfold maxLen at w0
  obtain ⟨sl, rfl⟩ : ∃ sl, a0 = bstr sl := ⟨_, (bstr_of a0).symm⟩
  have hz : Hid ((bstr sl).size = sl.length) := bstr_size sl
  by_cases h1000 : 1000 < (bstr sl).size
  · have h' : (1000 : Int) < ((bstr sl).size : Int) := by omega
    go_enter Try.func6, Try.ntmps6
    go_wp2_with fail
    refine (alive_any _).mono ?_
    rintro r w1 ⟨rfl, hb1⟩
    go_wp2
    go_ret
    exact ⟨rfl, hb1⟩
  · have h' : ((bstr sl).size : Int) ≤ 1000 := by omega
    go_enter Try.func6, Try.ntmps6
    go_wp2_with fail
    refine (alive_any _).mono ?_
    rintro r w1 ⟨rfl, hb1⟩
    go_wp2_with fail
    refine (of_any _ _).mono ?_
    rintro r w2 ⟨rfl, e2, b2, s2⟩
    have B2 : Hid (Below w.heap.size w w2) := hb1.trans (b2.mono hb1.size)
    have z1 := hb1.size
    clear hb1 b2
    go_wp2_with fail
    go_loopw [5] (fun t wr => ∃ (j : Nat) (l r : List UInt8) (v : Value), t = .int .i64 j ∧ j ≤ (bstr sl).size + 1 ∧ Hid (sl = l ++ r) ∧ EyeAt 52 wr w1.heap.size ⟨r, false⟩ ∧ PenAt (w1.heap.size + 2) wr (w1.heap.size + 1) v l ∧ Hid (Below w.heap.size w wr)) (fun t _ => (bstr sl).size + 1 - (intOf t).toNat)
    case atStart =>
      refine ⟨0, [], sl, .slice none 0 0, rfl, by omega, rfl, ?_, ?_, ?_⟩
      · exact e2.kept (F := fun _ => False) ((Touch.refl _ _).alloc _) (fun h => h)
      · rw [← s2]
        exact pen_new _ _ _ (heap_alloc_new _ _) (by omega) (by simp; omega)
      · exact B2.out.alloc (by omega) _
    case round =>
      obtain ⟨j, l, r, v, rfl, hj, hsl, he, hp, hB⟩ := hrel
      have hlen : l.length + r.length ≤ 1000 := by
        have := congrArg List.length hsl.out
        rw [List.length_append] at this
        have := hz.out
        omega
      clear e2 B2
      by_cases hjs : j ≤ (bstr sl).size
      · go_wp2_with fail
        refine (eyeNat_int _ _ _ _ he (by simp only [maxLen]; omega) (by decide)).mono ?_
        rintro x w4 ⟨rfl, e4, t4⟩
        rw [show (18446744073709551615 : Int).toNat = 18446744073709551615 from rfl] at e4 ⊢
        have hlt := Eye.nat_lt ⟨r, false⟩ 18446744073709551615
        have hk := nat_keeps ⟨r, false⟩ 18446744073709551615 rfl
        generalize ((Eye.mk r false).nat 18446744073709551615).1 = n at *
        generalize ((Eye.mk r false).nat 18446744073709551615).2 = e' at *
        have hp4 := hp.kept t4 (by
          rintro k (hk' | hk') hk2
          · omega
          · have := (hp.from _ hk').1; omega)
        have hB4 : Hid (Below w.heap.size w w4) := hB.out.trans (t4.below hB.out.size (by rintro k rfl; exact z1))
        clear hp he t4 hB
        obtain ⟨r', bd⟩ := e'
        simp only at hk
        rcases hk with ⟨rfl, rfl⟩ | ⟨rfl, hr⟩
        · go_wp2_with fail
          refine (bad_any _ _ _ e4.c1).mono ?_
          rintro x w5 ⟨rfl, rfl⟩
          have g1 : ((bstr l).size : Int) ≤ ((bstr sl).size : Int) := by rw [hsl.out, bstr_size, bstr_size, List.length_append]; omega
          have g2 : (((bstr sl).extract 0 (bstr l).size).toList == (bstr l).toList) = true := by rw [hsl.out]; exact eq_pre l _
          go_wp2_with fail
          refine (penBytes_any _ _ _ _ _ hp4).mono ?_
          rintro x w5 ⟨rfl, rfl⟩
          go_wp2_with fail
          refine (done_any _ _ _ e4).mono ?_
          rintro x w6 ⟨rfl, rfl⟩
          clear hp4 e4
          go_wp2
          go_ret
          exact ⟨rfl, hB4.out⟩
        · go_wp2_with fail
          refine (bad_any _ _ _ e4.c1).mono ?_
          rintro x w5 ⟨rfl, rfl⟩
          go_wp2_with fail
          refine (penNat_any _ _ _ _ _ _ hp4 hlt (by omega)).mono ?_
          rintro x w6 ⟨rfl, v6, p6, t6, l6⟩
          have e6 : EyeAt 52 w6 w1.heap.size ⟨r', false⟩ := e4.kept t6 (by
            rintro (hk' | hk')
            · omega
            · have := (hp4.from _ hk').1; omega)
          have hB6 : Hid (Below w.heap.size w w6) := hB4.out.trans (t6.below hB4.out.size (by
            rintro k (hk' | hk')
            · omega
            · have := (hp4.from _ hk').1; omega))
          have hsl6 : Hid (sl = (l ++ natB n) ++ r') := by rw [Hid, hsl.out, hr, List.append_assoc]
          clear hp4 e4 t6 l6 hB4 hr hsl
          go_wp2
          go_roundw
          case rel => exact ⟨j + 1, l ++ natB n, r', v6, by go_num, by omega, hsl6, e6, p6, hB6⟩
          case measure => simp [intOf]; omega
      · have g1 : ((bstr l).size : Int) ≤ ((bstr sl).size : Int) := by rw [hsl.out, bstr_size, bstr_size, List.length_append]; omega
        have g2 : (((bstr sl).extract 0 (bstr l).size).toList == (bstr l).toList) = true := by rw [hsl.out]; exact eq_pre l _
        go_wp2_with fail
        refine (penBytes_any _ _ _ _ _ hp).mono ?_
        rintro x w5 ⟨rfl, rfl⟩
        go_wp2_with fail
        refine (done_any _ _ _ he).mono ?_
        rintro x w6 ⟨rfl, rfl⟩
        by_cases hr : r = []
        · subst hr
          have g3 : ((bstr l).toList == (bstr sl).toList) = true := by rw [hsl.out, toList_bstr, toList_bstr]; simp
          clear hp he
          go_wp2
          go_ret
          exact ⟨rfl, hB.out⟩
        · rw [show ((!(Eye.mk r false).bad && (Eye.mk r false).rest.isEmpty)) = false by simp [hr]]
          clear hp he
          go_wp2
          go_ret
          exact ⟨rfl, hB.out⟩

set_option maxRecDepth 100000 in
theorem lifted (os : Os) (started : os.Started) (H : Type) (enc : TypeId × Value → H) :
    ReturnsInHanded {} Try.checked os 6 .any (Rows.penOnceSpec.pre6 enc Try.prog Try.f6 Rows.penOnceRow.domain false) (Rows.penOnceSpec.post enc Try.prog Try.f6 false true false false) := by
  refine returnsInHanded_of_change (C := Try.checked) own started (by kernel_rfl) Try.func6
    (ChangeSpec.witness6 (enc := enc) (C := Try.checked) false ⟨#[], #[.string ByteArray.empty], []⟩ 8 (by kernel_rfl) (by kernel_rfl) (by kernel_rfl) (by kernel_rfl)) ?_
  intro W base args ds gs before hval0 hW hcnd _
  have hval : ∀ (j : Nat) t v, Try.f6.params[j]? = some t → args[j]? = some v → Value.okWide Try.prog W .any base t v := hval0
  have hW' := hW
  obtain ⟨p, q, hA0, hV, rfl, hfz, hnd⟩ := hW
  have hA : DataW.TrodAll enc Try.prog W 0 (fun _ => true) true Try.f6.params.toList args.toList ds p := hA0
  rw [Try.params6] at hA hval
  obtain ⟨v0, vs0, d0, ds0, p0, q0, hargs, rfl, rfl, h0, r0⟩ := trodAll_cons hA
  obtain ⟨rfl, rfl, rfl⟩ := trodAll_nil r0
  obtain rfl : args = #[v0] := by cases args; simp_all
  obtain ⟨rfl, rfl⟩ := trodVars_none hV
  obtain ⟨a0, rfl, rfl, rfl, w0⟩ := open_string Try.underlying9 (hval 0 9 v0 rfl rfl) h0
  clear hA0 hval0
  refine (walk a0 W w0).mono fun e W' ⟨he, bel⟩ => ?_
  subst he
  exact ⟨_, rfl, _, _, _, [], _, [], hW', trodAll_mk1 (shut_bool Try.underlying4 _), (trodAll_cons_mk (shut_string Try.underlying9 w0) trodAll_mk0), rfl, bel.frame _, fun h => by cases h⟩

theorem over : Rows.penOnceRow.holds Try.pinned (OpenSpec.ofChange Rows.penOnceSpec) :=
  OpenClaim.holds_of_wide 6 Try.f6 rfl rfl rfl rfl rfl rfl rfl ⟨rfl, rfl, rfl, rfl, rfl⟩ rfl rfl rfl rfl rfl (by kernel_rfl) Try.func6 (by kernel_rfl)
    (of_decide_eq_true (by kernel_rfl)) (by unfold Func.isWrapper; first | (rw [if_pos (by decide +kernel)]; kernel_rfl) | (rw [if_neg (by decide +kernel)]; exact ⟨rfl, rfl⟩))
    (fun os started H enc _ => lifted os started H enc)

theorem proved : Rows.PenOnceSaid :=
  over
end Go.Proofs.Ytneifmjaploflaa.penOnce
