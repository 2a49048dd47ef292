/- The law padlocklaw02.PenReads answers true at every input: what is read of any bytes is what the document says, whatever is asked for; a nil eye is bad. No conditions. -/
import Derived.Test.YtneifmjaploflaaRows
import Derived.Test.YtneifmjaploflaaMath
import Derived.Test.YtneifmjaploflaaFirst
import Derived.Test.YtneifmjaploflaaEyes
import Derived.Test.YtneifmjaploflaaApps
import Derived.Test.YtneifmjaploflaaPens
import Derived.Test.YtneifmjaploflaaAlive
import Derived.Test.YtneifmjaploflaaRefs
import Derived.Test.YtneifmjaploflaaPuts
import Derived.Test.YtneifmjaploflaaItems
import Derived.Test.YtneifmjaploflaaRead
import Derived.Test.YtneifmjaploflaaRefEyes
import Derived.WalkKit
import Derived.ProofKit
import Derived.OpenShut
import Derived.ShutString
import Derived.ChangeOld
import Derived.Below
import Derived.Deep.QuietTactic
import Derived.BigQuiet
import Derived.Deep.CutBlock
import Derived.Deep.CutRange
import Derived.Deep.DeepCutAuto
namespace Go.Proofs.Ytneifmjaploflaa.penReads
open Go.ChangeShapes Go.WideShapes Go.ChangeAt Go.RowKit
open Go.ChangeMaps (open_string shut_string)
set_option linter.unusedVariables false

theorem own : ownKnob Try.prog.godebug = none := by kernel_rfl
theorem laidOut : laidOutB Try.prog = true := by kernel_rfl

open PenMath

/-- Between the two calls. -/
structure Mid (w wr w' : World) (b : Nat) (e e' : Eye) : Prop where
  mine : EyeAt 52 w' b e'
  his : EyeAt 38 w' (b + 1) (norm e)
  bel : Below w.heap.size w w'

/-- Behind them. -/
structure Fin (w w' : World) (b : Nat) (e' : Eye) : Prop where
  mine : EyeAt 52 w' b e'
  his : EyeAt 38 w' (b + 1) (norm e')
  bel : Below w.heap.size w w'

/-- The cells of an item. -/
def cellsOf (x : It) : Obj := .cells #[.int .i64 x.k, .int .u64 x.n, .string (bstr x.s)] 30

theorem mid_of {w wr w' : World} {b : Nat} {e e' : Eye} {x : It} (hB : Below w.heap.size w wr) (hb : w.heap.size ≤ b) (hm : EyeAt 38 wr (b + 1) (norm e)) (h3 : EyeAt 52 w' b e') (h4 : Touch (· = b) (wr.alloc (cellsOf x)).drew w') :
    Mid w wr w' b e e' ∧ w'.cell? ⟨wr.heap.size, 1, none⟩ = some (.int .u64 x.n) := by
  have hlt := hm.lt
  have h5 : w'.heap[wr.heap.size]? = some (cellsOf x) := by
    rw [h4.block wr.heap.size (by simp) (by omega)]
    exact heap_alloc_new _ _
  have h6 : EyeAt 38 (wr.alloc (cellsOf x)).drew (b + 1) (norm e) := hm.kept (F := fun _ => False) ((Touch.refl _ _).alloc _).drew (fun h => h)
  refine ⟨⟨h3, h6.kept h4 (by omega), ?_⟩, by simp [World.cell?, h5, cellsOf]⟩
  exact ((hB.alloc hB.size (cellsOf x)).drew).trans (h4.below (by have := hB.size; simp; omega) (by rintro k rfl; exact hb))

theorem fin_of {w wr w' w'' : World} {b : Nat} {e e' : Eye} (hb : w.heap.size ≤ b) (h : Mid w wr w' b e e') (h3 : EyeAt 38 w'' (b + 1) (norm e')) (h4 : Touch (· = b + 1) w' w'') : Fin w w'' b e' :=
  ⟨h.mine.kept h4 (by omega), h3, h.bel.trans (h4.below h.bel.size (by rintro k rfl; omega))⟩

theorem eye_box {wr : World} {b : Nat} {e : Eye} {x : It} (he : EyeAt 52 wr b e) : EyeAt 52 (wr.alloc (cellsOf x)).drew b e :=
  he.kept (F := fun _ => False) ((Touch.refl _ _).alloc _).drew (fun h => h)

theorem eye_box' {wr : World} {b : Nat} {e : Eye} {x : It} (he : EyeAt 52 wr b e) : EyeAt 52 (wr.alloc (cellsOf x)) b e :=
  he.kept (F := fun _ => False) ((Touch.refl _ _).alloc _) (fun h => h)

theorem mid_of' {w wr w' : World} {b : Nat} {e e' : Eye} {x : It} (hB : Below w.heap.size w wr) (hb : w.heap.size ≤ b) (hm : EyeAt 38 wr (b + 1) (norm e)) (h3 : EyeAt 52 w' b e') (h4 : Touch (· = b) (wr.alloc (cellsOf x)) w') :
    Mid w wr w' b e e' ∧ w'.cell? ⟨wr.heap.size, 1, none⟩ = some (.int .u64 x.n) :=
  mid_of (x := x) hB hb hm h3 ⟨h4.os, h4.tape, h4.output, h4.size, h4.block⟩

theorem bel_drewN {B n : Nat} {a w : World} (h : Below B a w) : Below B a (w.drewN n) := ⟨h.os, h.tape, h.output, h.size, h.block⟩

theorem int_short (e : Eye) : e.int.2.rest.length ≤ e.rest.length := Eye.nat_short e _
theorem text_short (e : Eye) (m : Int) : (e.text m).2.rest.length ≤ e.rest.length := by
  have h := Eye.nat_short e m.toNat
  unfold Eye.text
  simp only
  split
  · exact h
  · split
    · simp only [List.length_drop]; omega
    · exact h

theorem wrap_bounds (n : Nat) : -9223372036854775808 ≤ IntKind.i64.wrap (n : Int) ∧ IntKind.i64.wrap (n : Int) ≤ 9223372036854775807 := by
  simp [IntKind.wrap, IntKind.bits, IntKind.signed]
  omega

set_option maxRecDepth 100000 in
set_option maxHeartbeats 4000000 in
theorem walk (a0 : ByteArray) (v1 : Value) (xs : List It) (w : World) (w0 : a0.size ≤ maxLen) (w1 : IsItems w v1 xs) :
    Calls Try.prog 4 #[.string a0, v1] w fun e w' => e = .returned (.bool true) ∧ Below w.heap.size w w' := by
  unfold maxLen at w0
  obtain ⟨sl, rfl⟩ : ∃ sl, a0 = bstr sl := ⟨_, (bstr_of a0).symm⟩
  have hz : Hid ((bstr sl).size = sl.length) := bstr_size sl
  obtain ⟨a, cap, rfl, hx⟩ := w1
  by_cases hbig : 1000 < (bstr sl).size ∨ 60 < xs.length
  · clear hx
    rcases hbig with h | h
    · have h' : (1000 : Int) < ((bstr sl).size : Int) := by omega
      go_enter Try.func4, Try.ntmps4
      go_wp2_with fail
      refine (alive_any _).mono ?_
      rintro r w1 ⟨rfl, hb1⟩
      go_wp2
      go_ret
      exact ⟨rfl, hb1⟩
    · have h' : (60 : Int) < (xs.length : Int) := by omega
      by_cases h2 : 1000 < (bstr sl).size
      all_goals
        go_enter Try.func4, Try.ntmps4
        go_wp2_with fail
        refine (alive_any _).mono ?_
        rintro r w1 ⟨rfl, hb1⟩
        go_wp2
        go_ret
        exact ⟨rfl, hb1⟩
  · have h' : ((bstr sl).size : Int) ≤ 1000 := by omega
    have h2 : (xs.length : Int) ≤ 60 := by omega
    have hsl : sl.length ≤ 1000 := by rw [← hz.out]; omega
    have HX : Hid _ := hx
    clear hx
    go_enter Try.func4, Try.ntmps4
    go_wp2_with fail
    refine (alive_any _).mono ?_
    rintro r w1 ⟨rfl, hb1⟩
    go_wp2_with fail
    refine (of_any _ _).mono ?_
    rintro r w2 ⟨rfl, e2, b2, s2⟩
    have B2 : Hid (Below w.heap.size w w2) := hb1.trans (b2.mono hb1.size)
    have z1 := hb1.size
    clear hb1 b2
    go_wp2_with fail
    go_loopw [27] (fun t wr => ∃ (j : Nat) (e : Eye), t = .int .i64 j ∧ j ≤ xs.length ∧ Hid (e.rest.length ≤ 1000) ∧ Hid (EyeAt 52 wr w1.heap.size e) ∧ Hid (EyeAt 38 wr (w1.heap.size + 1) (norm e)) ∧ Hid (Below w.heap.size w wr)) (fun t _ => xs.length - (intOf t).toNat)
    case atStart =>
      refine ⟨0, ⟨sl, false⟩, rfl, by omega, hsl, ?_, ?_, ?_⟩
      · exact e2.kept (F := fun _ => False) ((Touch.refl _ _).alloc _) (fun h => h)
      · rw [← s2]
        exact heap_alloc_new _ _
      · exact B2.out.alloc (by omega) _
    case round =>
      obtain ⟨j, e, rfl, hj, hel, he, hm, hB⟩ := hrel
      clear e2 B2
      by_cases hjs : j < xs.length
      · obtain ⟨b, off, rfl, hb, ⟨c0, c1, c2⟩, ⟨k1, k2, k3, k4⟩⟩ := HX.out j hjs
        rw [← hB.out.cell hb] at c0 c1 c2
        generalize xs.getD j It.blank = x at *
        go_upto_block 2 with fail
        go_cut [27] from 27 to 86 (fun t wc => t = .int .i64 j ∧ ∃ e' : Eye, Hid (e'.rest.length ≤ 1000) ∧ Hid (Fin w wc w1.heap.size e'))
        case first =>
          by_cases h0 : x.k = 0
          · have t0 : (x.k == 0) = true := by simp [h0]
            have t1 : (x.k == 1) = false := by simp [h0]
            clear h0
            have C13 : Hid (Calls Try.prog 13 #[.pointer (some ⟨w1.heap.size, 0, none⟩), .int .u64 x.n] (wr.alloc (.cells #[.int .i64 x.k, .int .u64 x.n, .string (bstr x.s)] 30)).drew fun r w' => r = .returned (.int .u64 (e.nat x.n).1) ∧ Hid (Mid w wr w' w1.heap.size e (e.nat x.n).2) ∧ w'.cell? ⟨wr.heap.size, 1, none⟩ = some (.int .u64 x.n)) := by
              refine (eyeNat_any _ e x.n _ (eye_box (x := x) he.out) (by have := hel.out; simp only [maxLen]; omega)).mono ?_
              rintro r w' ⟨rfl, g1, g2⟩
              exact ⟨rfl, mid_of hB.out z1 hm.out g1 g2⟩
            have C14 : Hid (∀ W, Mid w wr W w1.heap.size e (e.nat x.n).2 → Calls Try.prog 14 #[.pointer (some ⟨w1.heap.size + 1, 0, none⟩), .int .u64 x.n] W fun r w' => r = .returned (.int .u64 (e.nat x.n).1) ∧ Hid (Fin w w' w1.heap.size (e.nat x.n).2)) := by
              intro W hW
              refine (refEyeNat_any _ e x.n W hW.his (by have := hel.out; omega)).mono ?_
              rintro r w' ⟨rfl, g1, g2⟩
              exact ⟨rfl, fin_of z1 hW g1 g2⟩
            have hel' : Hid ((e.nat x.n).2.rest.length ≤ 1000) := Nat.le_trans (Eye.nat_short e x.n) hel.out
            generalize (e.nat x.n).1 = n' at *
            generalize (e.nat x.n).2 = e' at *
            clear he hm hB hel HX
            go_wp2_with fail
            go_region_with (first | (go_at_call 13; refine Calls.mono C13.out ?_; rintro r w3 ⟨rfl, M3, q1⟩) | (go_at_call 14; refine Calls.mono (C14.out _ M3) ?_; rintro r w4 ⟨rfl, F4⟩))
            all_goals
              clear C13 C14
              go_wp2_with fail
              go_meet
              case rel => exact ⟨rfl, e', hel', F4⟩
          by_cases h1 : x.k = 1
          · have t0 : (x.k == 0) = false := by simp [h0]
            have t1 : (x.k == 1) = true := by simp [h1]
            clear h0 h1
            have C13 : Hid (Calls Try.prog 15 #[.pointer (some ⟨w1.heap.size, 0, none⟩)] (wr.alloc (.cells #[.int .i64 x.k, .int .u64 x.n, .string (bstr x.s)] 30)) fun r w' => r = .returned (.int .i64 e.int.1) ∧ Hid (Mid w wr w' w1.heap.size e e.int.2) ∧ w'.cell? ⟨wr.heap.size, 1, none⟩ = some (.int .u64 x.n)) := by
              refine (eyeInt_any _ e _ (eye_box' (x := x) he.out) (by have := hel.out; simp only [maxLen]; omega)).mono ?_
              rintro r w' ⟨rfl, g1, g2⟩
              exact ⟨rfl, mid_of' hB.out z1 hm.out g1 g2⟩
            have C14 : Hid (∀ W, Mid w wr W w1.heap.size e e.int.2 → Calls Try.prog 16 #[.pointer (some ⟨w1.heap.size + 1, 0, none⟩)] W fun r w' => r = .returned (.int .i64 e.int.1) ∧ Hid (Fin w w' w1.heap.size e.int.2)) := by
              intro W hW
              refine (refEyeInt_any _ e W hW.his (by have := hel.out; omega)).mono ?_
              rintro r w' ⟨rfl, g1, g2⟩
              exact ⟨rfl, fin_of z1 hW g1 g2⟩
            have hel' : Hid (e.int.2.rest.length ≤ 1000) := Nat.le_trans (int_short e) hel.out
            generalize e.int.1 = n' at *
            generalize e.int.2 = e' at *
            clear he hm hB hel HX
            go_wp2_with fail
            refine Calls.mono C13.out ?_
            rintro r w3 ⟨rfl, M3, q1⟩
            go_wp2_with fail
            refine Calls.mono (C14.out _ M3.out) ?_
            rintro r w4 ⟨rfl, F4⟩
            clear C13 C14
            go_wp2_with fail
            go_meet
            case rel => exact ⟨rfl, e', hel', F4⟩
          · have t0 : (x.k == 0) = false := by simp [h0]
            have t1 : (x.k == 1) = false := by simp [h1]
            clear h0 h1
            have hwr := wrap_bounds x.n
            have C13 : Hid (Calls Try.prog 17 #[.pointer (some ⟨w1.heap.size, 0, none⟩), .int .i64 (IntKind.i64.wrap x.n)] (wr.alloc (.cells #[.int .i64 x.k, .int .u64 x.n, .string (bstr x.s)] 30)).drew fun r w' => r = .returned (.string (bstr (e.text (IntKind.i64.wrap x.n)).1)) ∧ Hid (Mid w wr w' w1.heap.size e (e.text (IntKind.i64.wrap x.n)).2) ∧ w'.cell? ⟨wr.heap.size, 1, none⟩ = some (.int .u64 x.n)) := by
              refine (eyeText_any _ e _ _ (eye_box (x := x) he.out) (by have := hel.out; omega) hwr.1 hwr.2).mono ?_
              rintro r w' ⟨rfl, g1, g2⟩
              exact ⟨rfl, mid_of hB.out z1 hm.out g1 g2⟩
            have C14 : Hid (∀ W, Mid w wr W w1.heap.size e (e.text (IntKind.i64.wrap x.n)).2 → Calls Try.prog 18 #[.pointer (some ⟨w1.heap.size + 1, 0, none⟩), .int .i64 (IntKind.i64.wrap x.n)] W fun r w' => r = .returned (.string (bstr (e.text (IntKind.i64.wrap x.n)).1)) ∧ Hid (Fin w w' w1.heap.size (e.text (IntKind.i64.wrap x.n)).2)) := by
              intro W hW
              refine (refEyeText_any _ e _ W hW.his (by have := hel.out; omega) hwr.1 hwr.2).mono ?_
              rintro r w' ⟨rfl, g1, g2⟩
              exact ⟨rfl, fin_of z1 hW g1 g2⟩
            have hel' : Hid ((e.text (IntKind.i64.wrap x.n)).2.rest.length ≤ 1000) := Nat.le_trans (text_short e _) hel.out
            generalize (e.text (IntKind.i64.wrap x.n)).1 = n' at *
            generalize (e.text (IntKind.i64.wrap x.n)).2 = e' at *
            have t2 : ((bstr n').toList != (bstr n').toList) = false := by simp
            clear he hm hB hel HX hwr
            go_wp2_with fail
            go_region_with (first | (go_at_call 17; refine Calls.mono C13.out ?_; rintro r w3 ⟨rfl, M3, q1⟩) | (go_at_call 18; refine Calls.mono (C14.out _ M3) ?_; rintro r w4 ⟨rfl, F4⟩))
            all_goals
              clear C13 C14
              go_wp2_with fail
              go_meet
              case rel => exact ⟨rfl, e', hel', F4⟩
        case rest =>
          obtain ⟨rfl, e', hel', F4⟩ := hcut
          clear he hm hB hel HX
          obtain ⟨r', bd⟩ := e'
          cases bd with
          | true =>
            have m0 := F4.out.mine
            have m1 := F4.out.mine.c1
            have s1 := F4.out.his.c1
            rw [norm_bad _ rfl] at s1
            go_wp2_with fail
            go_quiet ((first | (go_at_call 19; exact Calls.quiet_of_same (bad_any _ _ _ (by exact m1))) | (go_at_call 20; exact Calls.quiet_of_same (done_any _ _ _ (by exact m0)))))
            go_wp2
            go_roundw
            case rel => exact ⟨j + 1, _, by go_num, by omega, hel', F4.out.mine, F4.out.his, bel_drewN F4.out.bel⟩
            case measure => simp [intOf]; omega
          | false =>
            have m0 := F4.out.mine
            have m1 := F4.out.mine.c1
            have s0 := F4.out.his.c0
            have s1 := F4.out.his.c1
            rw [norm_good _ rfl] at s0 s1
            have t5 : (!(r'.isEmpty == (bstr r').toList.isEmpty)) = false := by rw [toList_bstr]; simp
            go_wp2_with fail
            go_quiet ((first | (go_at_call 19; exact Calls.quiet_of_same (bad_any _ _ _ (by exact m1))) | (go_at_call 20; exact Calls.quiet_of_same (done_any _ _ _ (by exact m0)))))
            go_wp2
            go_roundw
            case rel => exact ⟨j + 1, _, by go_num, by omega, hel', F4.out.mine, F4.out.his, bel_drewN F4.out.bel⟩
            case measure => simp [intOf]; omega
      · clear he hm hel HX
        go_wp2_with fail
        refine (eyeNat_nil _ _).mono ?_
        rintro r w3 ⟨rfl, rfl⟩
        go_wp2_with fail
        refine (eyeInt_nil _).mono ?_
        rintro r w3 ⟨rfl, rfl⟩
        go_wp2_with fail
        refine (eyeText_nil _ _).mono ?_
        rintro r w3 ⟨rfl, rfl⟩
        rw [show ByteArray.empty = ⟨#[]⟩ from rfl]
        go_wp2_with fail
        refine (bad_nil _).mono ?_
        rintro r w3 ⟨rfl, rfl⟩
        go_wp2_with fail
        refine (done_nil _).mono ?_
        rintro r w3 ⟨rfl, rfl⟩
        go_wp2
        go_ret
        exact ⟨rfl, hB.out⟩

set_option maxRecDepth 100000 in
theorem lifted (os : Os) (started : os.Started) (H : Type) (enc : TypeId × Value → H) :
    ReturnsInHanded {} Try.checked os 4 .any (Rows.penReadsSpec.pre6 enc Try.prog Try.f4 Rows.penReadsRow.domain false) (Rows.penReadsSpec.post enc Try.prog Try.f4 false true false false) := by
  refine returnsInHanded_of_change (C := Try.checked) own started (by kernel_rfl) Try.func4
    (ChangeSpec.witness6 (enc := enc) (C := Try.checked) false ⟨#[], #[.string ByteArray.empty, .slice none 0 0], []⟩ 8 (by kernel_rfl) (by kernel_rfl) (by kernel_rfl) (by kernel_rfl)) ?_
  intro W base args ds gs before hval0 hW hcnd _
  have hval : ∀ (j : Nat) t v, Try.f4.params[j]? = some t → args[j]? = some v → Value.okWide Try.prog W .any base t v := hval0
  have hW' := hW
  obtain ⟨p, q, hA0, hV, rfl, hfz, hnd⟩ := hW
  have hA : DataW.TrodAll enc Try.prog W 0 (fun _ => true) true Try.f4.params.toList args.toList ds p := hA0
  rw [Try.params4] at hA hval
  obtain ⟨v0, vs0, d0, ds0, p0, q0, hargs, rfl, rfl, h0, r0⟩ := trodAll_cons hA
  obtain ⟨v1, vs1, d1, ds1, p1, q1, rfl, rfl, rfl, h1, r1⟩ := trodAll_cons r0
  obtain ⟨rfl, rfl, rfl⟩ := trodAll_nil r1
  obtain rfl : args = #[v0, v1] := by cases args; simp_all
  obtain ⟨rfl, rfl⟩ := trodVars_none hV
  obtain ⟨a0, rfl, rfl, rfl, w0⟩ := open_string Try.underlying9 (hval 0 9 v0 rfl rfl) h0
  have k1 := h1
  have lt1 : ∀ x ∈ p1, x.block < W.heap.size := by obtain ⟨m, hm⟩ := k1; exact DataW.trod_lt m _ _ _ hm
  obtain ⟨x1, w1⟩ := open22 (hval 1 22 v1 rfl rfl) h1
  clear hA0 hval0
  refine (walk a0 v1 x1 W w0 w1).mono fun e W' ⟨he, bel⟩ => ?_
  subst he
  exact ⟨_, rfl, _, _, _, [], _, [], hW', trodAll_mk1 (shut_bool Try.underlying4 _), (trodAll_cons_mk (shut_string Try.underlying9 w0) (trodAll_cons_mk (Below.trod laidOut (by kernel_rfl) (of_decide_eq_true (by kernel_rfl)) k1 bel lt1) trodAll_mk0)), rfl, bel.frame _, fun h => by cases h⟩

theorem over : Rows.penReadsRow.holds Try.pinned (OpenSpec.ofChange Rows.penReadsSpec) :=
  OpenClaim.holds_of_wide 4 Try.f4 rfl rfl rfl rfl rfl rfl rfl ⟨rfl, rfl, rfl, rfl, rfl⟩ rfl rfl rfl rfl rfl (by kernel_rfl) Try.func4 (by kernel_rfl)
    (of_decide_eq_true (by kernel_rfl)) (by unfold Func.isWrapper; first | (rw [if_pos (by decide +kernel)]; kernel_rfl) | (rw [if_neg (by decide +kernel)]; exact ⟨rfl, rfl⟩))
    (fun os started H enc _ => lifted os started H enc)

theorem proved : Rows.PenReadsSaid :=
  over
end Go.Proofs.Ytneifmjaploflaa.penReads
