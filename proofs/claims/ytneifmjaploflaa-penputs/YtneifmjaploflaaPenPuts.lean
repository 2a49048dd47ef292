/- The law padlocklaw02.PenPuts answers true at every input: what is put is what the document says, in every order; a nil pen puts nothing. No conditions. -/
import Derived.Test.YtneifmjaploflaaRows
import Derived.Test.YtneifmjaploflaaMath
import Derived.Test.YtneifmjaploflaaFirst
import Derived.Test.YtneifmjaploflaaEyes
import Derived.Test.YtneifmjaploflaaApps
import Derived.Test.YtneifmjaploflaaPens
import Derived.Test.YtneifmjaploflaaAlive
import Derived.Test.YtneifmjaploflaaRefs
import Derived.Test.YtneifmjaploflaaPuts
import Derived.Test.YtneifmjaploflaaItems
import Derived.WalkKit
import Derived.ProofKit
import Derived.OpenShut
import Derived.ShutString
import Derived.ChangeOld
import Derived.Below
import Derived.Deep.QuietTactic
import Derived.BigQuiet
import Derived.Deep.CutBlock
import Derived.Deep.CutRange
import Derived.Deep.DeepCutAuto
namespace Go.Proofs.Ytneifmjaploflaa.penPuts
open Go.ChangeShapes Go.WideShapes Go.ChangeAt Go.RowKit
open Go.ChangeMaps (open_string shut_string)
set_option linter.unusedVariables false

theorem own : ownKnob Try.prog.godebug = none := by kernel_rfl
theorem laidOut : laidOutB Try.prog = true := by kernel_rfl

open PenMath

set_option maxRecDepth 100000 in
set_option maxHeartbeats 1000000 in
theorem walk (v0 : Value) (xs : List It) (w : World) (w0 : IsItems w v0 xs) :
    Calls Try.prog 3 #[v0] w fun e w' => e = .returned (.bool true) ∧ Below w.heap.size w w' := by
  obtain ⟨a, cap, rfl, hx⟩ := w0
  by_cases h60 : 60 < xs.length
  · have h' : (60 : Int) < (xs.length : Int) := by omega
    clear hx
    go_enter Try.func3, Try.ntmps3
    go_wp2_with fail
    refine (alive_any _).mono ?_
    rintro r w1 ⟨rfl, hb1⟩
    go_wp2
    go_ret
    exact ⟨rfl, hb1⟩
  · have h' : (xs.length : Int) ≤ 60 := by omega
    have HX : Hid _ := hx
    clear hx
    go_enter Try.func3, Try.ntmps3
    go_wp2_with fail
    refine (alive_any _).mono ?_
    rintro r w1 ⟨rfl, hb1⟩
    have z1 := hb1.size
    have B1 : Hid _ := hb1
    clear hb1
    go_wp2_with fail
    go_loopw [5, 15] (fun t5 t wr => ∃ (j : Nat) (l : List UInt8) (v : Value), t = .int .i64 j ∧ j ≤ xs.length ∧ t5 = .string (bstr l) ∧ l.length ≤ 1010 * j ∧ PenAt (w1.heap.size + 1) wr w1.heap.size v l ∧ Hid (Below w.heap.size w wr)) (fun _ t _ => xs.length - (intOf t).toNat)
    case atStart =>
      refine ⟨0, [], .slice none 0 0, rfl, by omega, rfl, by simp, ?_, ?_⟩
      · exact pen_new _ _ _ (heap_alloc_new _ _) (by omega) (by simp)
      · exact B1.out.alloc (by omega) _
    case round =>
      obtain ⟨j, l, v, rfl, hj, rfl, hl, hp, hB⟩ := hrel
      by_cases hjs : j < xs.length
      · obtain ⟨b, off, rfl, hb, ⟨c0, c1, c2⟩, ⟨k1, k2, k3, k4⟩⟩ := HX.out j hjs
        rw [← hB.out.cell hb] at c0 c1 c2
        generalize xs.getD j It.blank = x at *
        have hz : Hid ((bstr x.s).size = x.s.length) := bstr_size x.s
        by_cases hs : 1000 < (bstr x.s).size
        · have hs' : (1000 : Int) < ((bstr x.s).size : Int) := by omega
          clear hp HX
          go_wp2
          go_ret
          exact ⟨rfl, hB.out.alloc hB.out.size _⟩
        · have hs' : ((bstr x.s).size : Int) ≤ 1000 := by omega
          have hs2 : x.s.length ≤ 1000 := by rw [← hz.out]; omega
          have hpa : PenAt (w1.heap.size + 1) (wr.alloc (.cells #[.int .i64 x.k, .int .u64 x.n, .string (bstr x.s)] 30)) w1.heap.size v l := hp.kept (F := fun _ => False) ((Touch.refl _ _).alloc _) (fun _ _ h => h)
          have hit := itB_len x.k x.n x.s k3 hs2
          go_wp2_with fail
          refine (put_any _ _ _ _ _ _ _ _ hpa k3 hs2 (by omega)).mono ?_
          rintro r w3 ⟨rfl, v3, p3, t3, l3⟩
          have hbx := box_kept hp t3
          have d0 : w3.cell? ⟨wr.heap.size, 0, none⟩ = some (.int .i64 x.k) := by simp [World.cell?, hbx]
          have d1 : w3.cell? ⟨wr.heap.size, 1, none⟩ = some (.int .u64 x.n) := by simp [World.cell?, hbx]
          have d2 : w3.cell? ⟨wr.heap.size, 2, none⟩ = some (.string (bstr x.s)) := by simp [World.cell?, hbx]
          have B3 : Hid (Below w.heap.size w w3) := (hB.out.alloc hB.out.size _).trans (t3.below (by have := hB.out.size; simp; omega) (by
            rintro k (hk | hk)
            · omega
            · have := (hp.from _ hk).1; omega))
          have hl2 : (l ++ itB x.k x.n x.s).length ≤ 1010 * (j + 1) := by rw [List.length_append]; omega
          have E : Hid (bstr l ++ bstr (itB x.k x.n x.s) = bstr (l ++ itB x.k x.n x.s)) := by
            apply WideShapes.bytes_inj
            simp [bstr]
          have y1 : ((bstr l).size : Int) ≤ 100000 := by rw [bstr_size]; omega
          have y2 : ((bstr (itB x.k x.n x.s)).size : Int) ≤ 2000 := by rw [bstr_size]; omega
          have P3 : Hid (PenAt (w1.heap.size + 1) w3 w1.heap.size v3 (l ++ itB x.k x.n x.s)) := p3
          clear hpa p3 t3 l3 hbx hp hB c0 c1 c2 HX hz
          go_wp2_with fail
          refine (put_nil _ _ _ _ k3 hs2).mono ?_
          rintro r w4 ⟨rfl, hb4⟩
          have B4 : Hid (Below w.heap.size w w4) := B3.out.trans (hb4.mono B3.out.size)
          have P4 : Hid (PenAt (w1.heap.size + 1) w4 w1.heap.size v3 (l ++ itB x.k x.n x.s)) := P3.out.kept (F := fun _ => False) (Touch.of_below hb4) (fun _ _ h => h)
          clear B3 P3 hb4 d0 d1 d2
          go_wp2_with fail
          refine (penBytes_any _ _ _ _ _ P4.out).mono ?_
          rintro r w5 ⟨rfl, rfl⟩
          rw [E.out]
          generalize l ++ itB x.k x.n x.s = l2 at *
          have t1 : ((bstr l2).toList != (bstr l2).toList) = false := by simp
          go_wp2_with fail
          refine (penBytes_nil _).mono ?_
          rintro r w6 ⟨rfl, rfl⟩
          go_wp2
          go_roundw
          case rel => exact ⟨j + 1, l2, v3, by go_num, by omega, rfl, hl2, P4.out, B4⟩
          case measure => simp [intOf]; omega
      · go_wp2
        go_ret
        exact ⟨rfl, hB.out⟩

set_option maxRecDepth 100000 in
theorem lifted (os : Os) (started : os.Started) (H : Type) (enc : TypeId × Value → H) :
    ReturnsInHanded {} Try.checked os 3 .any (Rows.penPutsSpec.pre6 enc Try.prog Try.f3 Rows.penPutsRow.domain false) (Rows.penPutsSpec.post enc Try.prog Try.f3 false true false false) := by
  refine returnsInHanded_of_change (C := Try.checked) own started (by kernel_rfl) Try.func3
    (ChangeSpec.witness6 (enc := enc) (C := Try.checked) false ⟨#[], #[.slice none 0 0], []⟩ 8 (by kernel_rfl) (by kernel_rfl) (by kernel_rfl) (by kernel_rfl)) ?_
  intro W base args ds gs before hval0 hW hcnd _
  have hval : ∀ (j : Nat) t v, Try.f3.params[j]? = some t → args[j]? = some v → Value.okWide Try.prog W .any base t v := hval0
  have hW' := hW
  obtain ⟨p, q, hA0, hV, rfl, hfz, hnd⟩ := hW
  have hA : DataW.TrodAll enc Try.prog W 0 (fun _ => true) true Try.f3.params.toList args.toList ds p := hA0
  rw [Try.params3] at hA hval
  obtain ⟨v0, vs0, d0, ds0, p0, q0, hargs, rfl, rfl, h0, r0⟩ := trodAll_cons hA
  obtain ⟨rfl, rfl, rfl⟩ := trodAll_nil r0
  obtain rfl : args = #[v0] := by cases args; simp_all
  obtain ⟨rfl, rfl⟩ := trodVars_none hV
  have k0 := h0
  have lt0 : ∀ x ∈ p0, x.block < W.heap.size := by obtain ⟨m, hm⟩ := k0; exact DataW.trod_lt m _ _ _ hm
  obtain ⟨x0, w0⟩ := open22 (hval 0 22 v0 rfl rfl) h0
  clear hA0 hval0
  refine (walk v0 x0 W w0).mono fun e W' ⟨he, bel⟩ => ?_
  subst he
  exact ⟨_, rfl, _, _, _, [], _, [], hW', trodAll_mk1 (shut_bool Try.underlying4 _), (trodAll_cons_mk (Below.trod laidOut (by kernel_rfl) (of_decide_eq_true (by kernel_rfl)) k0 bel lt0) trodAll_mk0), rfl, bel.frame _, fun h => by cases h⟩

theorem over : Rows.penPutsRow.holds Try.pinned (OpenSpec.ofChange Rows.penPutsSpec) :=
  OpenClaim.holds_of_wide 3 Try.f3 rfl rfl rfl rfl rfl rfl rfl ⟨rfl, rfl, rfl, rfl, rfl⟩ rfl rfl rfl rfl rfl (by kernel_rfl) Try.func3 (by kernel_rfl)
    (of_decide_eq_true (by kernel_rfl)) (by unfold Func.isWrapper; first | (rw [if_pos (by decide +kernel)]; kernel_rfl) | (rw [if_neg (by decide +kernel)]; exact ⟨rfl, rfl⟩))
    (fun os started H enc _ => lifted os started H enc)

theorem proved : Rows.PenPutsSaid :=
  over
end Go.Proofs.Ytneifmjaploflaa.penPuts
