/- The law padlocklaw02.PenBack answers true at every input: what was put is read again, item by item, and nothing is left. No conditions. -/
import Derived.Test.YtneifmjaploflaaRows
import Derived.Test.YtneifmjaploflaaMath
import Derived.Test.YtneifmjaploflaaFirst
import Derived.Test.YtneifmjaploflaaEyes
import Derived.Test.YtneifmjaploflaaApps
import Derived.Test.YtneifmjaploflaaPens
import Derived.Test.YtneifmjaploflaaAlive
import Derived.Test.YtneifmjaploflaaRefs
import Derived.Test.YtneifmjaploflaaPuts
import Derived.Test.YtneifmjaploflaaItems
import Derived.WalkKit
import Derived.ProofKit
import Derived.OpenShut
import Derived.ShutString
import Derived.ChangeOld
import Derived.Below
import Derived.Deep.QuietTactic
import Derived.BigQuiet
import Derived.Deep.CutBlock
import Derived.Deep.CutRange
import Derived.Deep.DeepCutAuto
namespace Go.Proofs.Ytneifmjaploflaa.penBack
open Go.ChangeShapes Go.WideShapes Go.ChangeAt Go.RowKit
open Go.ChangeMaps (open_string shut_string)
set_option linter.unusedVariables false

theorem own : ownKnob Try.prog.godebug = none := by kernel_rfl
theorem laidOut : laidOutB Try.prog = true := by kernel_rfl

open PenMath

/-- The bytes of items. -/
def flat (xs : List It) : List UInt8 := xs.flatMap fun x => itB x.k x.n x.s

theorem getD_at (xs : List It) (j : Nat) (h : j < xs.length) : xs.getD j It.blank = xs[j] := by simp [List.getD, h]

theorem flat_drop_le (xs : List It) (j : Nat) : (flat (xs.drop j)).length ≤ (flat xs).length := by
  have : flat xs = flat (xs.take j) ++ flat (xs.drop j) := by
    unfold flat
    rw [← List.flatMap_append, List.take_append_drop]
  rw [this, List.length_append]
  omega

theorem back_nat (n : Nat) (l : List UInt8) (h : n < 18446744073709551616) : (Eye.mk (natB n ++ l) false).nat n = (n, ⟨l, false⟩) := Eye.nat_back n l n h (Nat.le_refl _)
theorem back_int (n : Int) (l : List UInt8) (h1 : -9223372036854775808 ≤ n) (h2 : n ≤ 9223372036854775807) : (Eye.mk (natB (zz n) ++ l) false).int = (n, ⟨l, false⟩) := by
  have h := zz_lt n h1 h2
  unfold Eye.int
  rw [Eye.nat_back (zz n) l _ h (by omega), unzz_zz]
theorem back_text (s l : List UInt8) (h : s.length ≤ 1000) : (Eye.mk (natB s.length ++ s ++ l) false).text s.length = (s, ⟨l, false⟩) := by
  unfold Eye.text
  rw [Int.toNat_natCast, List.append_assoc, Eye.nat_back s.length (s ++ l) _ (by omega) (Nat.le_refl _)]
  simp

theorem wrap_same (n : Nat) : (wrap64 (n : Int) != IntKind.i64.wrap (n : Int)) = false := by
  have : wrap64 (n : Int) = IntKind.i64.wrap (n : Int) := by
    simp [IntKind.wrap, IntKind.bits, IntKind.signed, wrap64]
    omega
  rw [this]; simp

/-- The cells of an item. -/
def cellsOf (x : It) : Obj := .cells #[.int .i64 x.k, .int .u64 x.n, .string (bstr x.s)] 30

/-- What a call of an eye leaves of the rest. -/
structure Left (w wr w' : World) (b : Nat) (l : List UInt8) (x : It) : Prop where
  eye : Hid (EyeAt 52 w' b ⟨l, false⟩)
  bel : Hid (Below w.heap.size w w')
  one : w'.cell? ⟨wr.heap.size, 1, none⟩ = some (.int .u64 x.n)
  two : w'.cell? ⟨wr.heap.size, 2, none⟩ = some (.string (bstr x.s))

theorem left_of {w wr w' : World} {b : Nat} {l : List UInt8} {x : It} (hB : Below w.heap.size w wr) (hb : w.heap.size ≤ b) (hne : wr.heap.size ≠ b) (h3 : EyeAt 52 w' b ⟨l, false⟩) (h4 : Touch (· = b) (wr.alloc (cellsOf x)).drew w') : Left w wr w' b l x := by
  have h5 : w'.heap[wr.heap.size]? = some (cellsOf x) := by
    rw [h4.block wr.heap.size (by simp) hne]
    exact heap_alloc_new _ _
  refine ⟨h3, ?_, by simp [World.cell?, h5, cellsOf], by simp [World.cell?, h5, cellsOf]⟩
  exact ((hB.alloc hB.size (cellsOf x)).drew).trans (h4.below (by have := hB.size; simp; omega) (by rintro k rfl; exact hb))

theorem eye_box {wr : World} {b : Nat} {e : Eye} {x : It} (he : EyeAt 52 wr b e) : EyeAt 52 (wr.alloc (cellsOf x)).drew b e :=
  he.kept (F := fun _ => False) ((Touch.refl _ _).alloc _).drew (fun h => h)

theorem flat_take (xs : List It) (j : Nat) (h : j < xs.length) : flat (xs.take (j + 1)) = flat (xs.take j) ++ itB (xs.getD j It.blank).k (xs.getD j It.blank).n (xs.getD j It.blank).s := by
  unfold flat
  rw [List.take_succ_eq_append_getElem h, List.flatMap_append, getD_at xs j h]
  simp only [List.flatMap_cons, List.flatMap_nil, List.append_nil]

theorem flat_drop (xs : List It) (j : Nat) (h : j < xs.length) : flat (xs.drop j) = itB (xs.getD j It.blank).k (xs.getD j It.blank).n (xs.getD j It.blank).s ++ flat (xs.drop (j + 1)) := by
  unfold flat
  rw [List.drop_eq_getElem_cons h, getD_at xs j h]
  simp only [List.flatMap_cons]

theorem flat_len (xs : List It) (h : ∀ x ∈ xs, x.n < 18446744073709551616 ∧ x.s.length ≤ 1000) : (flat xs).length ≤ 1010 * xs.length := by
  induction xs with
  | nil => simp [flat]
  | cons x xs ih =>
    have h1 := itB_len x.k x.n x.s (h x (by simp)).1 (h x (by simp)).2
    have h2 := ih (fun y hy => h y (by simp [hy]))
    simp only [flat, List.flatMap_cons, List.length_append, List.length_cons] at h2 ⊢
    omega

set_option maxRecDepth 100000 in
set_option maxHeartbeats 1000000 in
theorem walk (v0 : Value) (xs : List It) (w : World) (w0 : IsItems w v0 xs) :
    Calls Try.prog 5 #[v0] w fun e w' => e = .returned (.bool true) ∧ Below w.heap.size w w' := by
  obtain ⟨a, cap, rfl, hx⟩ := w0
  by_cases h60 : 60 < xs.length
  · have h' : (60 : Int) < (xs.length : Int) := by omega
    clear hx
    go_enter Try.func5, Try.ntmps5
    go_wp2_with fail
    refine (alive_any _).mono ?_
    rintro r w1 ⟨rfl, hb1⟩
    go_wp2
    go_ret
    exact ⟨rfl, hb1⟩
  · have h' : (xs.length : Int) ≤ 60 := by omega
    have HX : Hid _ := hx
    clear hx
    go_enter Try.func5, Try.ntmps5
    go_wp2_with fail
    refine (alive_any _).mono ?_
    rintro r w1 ⟨rfl, hb1⟩
    have z1 := hb1.size
    have B1 : Hid _ := hb1
    clear hb1
    go_wp2_with fail
    go_loopw [16] (fun t wr => ∃ (j : Nat) (v : Value), t = .int .i64 j ∧ j ≤ xs.length ∧ Hid ((flat (xs.take j)).length ≤ 1010 * j) ∧ Hid (∀ i, i < j → (xs.getD i It.blank).s.length ≤ 1000) ∧ PenAt (w1.heap.size + 1) wr w1.heap.size v (flat (xs.take j)) ∧ Hid (Below w.heap.size w wr)) (fun t _ => xs.length - (intOf t).toNat)
    case atStart =>
      refine ⟨0, .slice none 0 0, rfl, by omega, ?_, ?_, ?_, ?_⟩
      · simp [Hid, flat]
      · intro i hi; omega
      · simp only [List.take_zero]
        exact pen_new _ _ _ (heap_alloc_new _ _) (by omega) (by simp)
      · exact B1.out.alloc (by omega) _
    case round =>
      obtain ⟨j, v, rfl, hj, hl, hall, hp, hB⟩ := hrel
      by_cases hjs : j < xs.length
      · have hft : Hid _ := flat_take xs j hjs
        obtain ⟨b, off, rfl, hb, ⟨c0, c1, c2⟩, ⟨k1, k2, k3, k4⟩⟩ := HX.out j hjs
        rw [← hB.out.cell hb] at c0 c1 c2
        generalize hxj : xs.getD j It.blank = x at *
        have HXJ : Hid _ := hxj
        clear hxj
        have hz : Hid ((bstr x.s).size = x.s.length) := bstr_size x.s
        by_cases hs : 1000 < (bstr x.s).size
        · have hs' : (1000 : Int) < ((bstr x.s).size : Int) := by omega
          clear hp HX hft
          go_wp2
          go_ret
          exact ⟨rfl, hB.out.alloc hB.out.size _⟩
        · have hs' : ((bstr x.s).size : Int) ≤ 1000 := by omega
          have hs2 : x.s.length ≤ 1000 := by rw [← hz.out]; omega
          have hpa : PenAt (w1.heap.size + 1) (wr.alloc (.cells #[.int .i64 x.k, .int .u64 x.n, .string (bstr x.s)] 30)) w1.heap.size v (flat (xs.take j)) := hp.kept (F := fun _ => False) ((Touch.refl _ _).alloc _) (fun _ _ h => h)
          have hit := itB_len x.k x.n x.s k3 hs2
          go_wp2_with fail
          refine (put_any _ _ _ _ _ _ _ _ hpa k3 hs2 (by have := hl.out; omega)).mono ?_
          rintro r w3 ⟨rfl, v3, p3, t3, l3⟩
          have B3 : Hid (Below w.heap.size w w3) := (hB.out.alloc hB.out.size _).trans (t3.below (by have := hB.out.size; simp; omega) (by
            rintro k (hk | hk)
            · omega
            · have := (hp.from _ hk).1; omega))
          rw [← hft.out] at p3
          have hl3 : Hid ((flat (xs.take (j + 1))).length ≤ 1010 * (j + 1)) := by
            rw [Hid, hft.out, List.length_append]
            have := hl.out
            omega
          have hall3 : Hid (∀ i, i < j + 1 → (xs.getD i It.blank).s.length ≤ 1000) := by
            intro i hi
            by_cases e : i = j
            · subst e; rw [HXJ.out]; exact hs2
            · exact hall.out i (by omega)
          clear hpa t3 l3 hp hB c0 c1 c2 HX hz hft hl hall
          go_wp2
          go_roundw
          case rel => exact ⟨j + 1, v3, by go_num, by omega, hl3, hall3, p3, B3⟩
          case measure => simp [intOf]; omega
      · obtain rfl : j = xs.length := by omega
        have hfl : Hid (flat (xs.take xs.length) = flat xs) := by rw [Hid, List.take_length]
        rw [hfl.out] at hp hl
        have hle : (flat xs).length ≤ 60600 := by have := hl.out; omega
        go_wp2_with fail
        refine (penBytes_any _ _ _ _ _ hp).mono ?_
        rintro r w5 ⟨rfl, rfl⟩
        go_wp2_with fail
        refine (of_any _ _).mono ?_
        rintro r w6 ⟨rfl, e6, b6, s6⟩
        have B6 : Hid (Below w.heap.size w w6) := hB.out.trans (b6.mono hB.out.size)
        have zE := hB.out.size
        clear hp hB hl b6
        go_wp2_with fail
        go_loopw [31] (fun t wr => ∃ (j : Nat), t = .int .i64 j ∧ j ≤ xs.length ∧ Hid (EyeAt 52 wr w5.heap.size ⟨flat (xs.drop j), false⟩) ∧ Hid (Below w.heap.size w wr)) (fun t _ => xs.length - (intOf t).toNat)
        case atStart => exact ⟨0, rfl, by omega, e6, B6⟩
        case round =>
          obtain ⟨j, rfl, hj, he, hB⟩ := hrel
          clear e6 B6
          by_cases hjs : j < xs.length
          · have hfd : Hid _ := flat_drop xs j hjs
            have hs2 := hall.out j hjs
            obtain ⟨b, off, rfl, hb, ⟨c0, c1, c2⟩, ⟨k1, k2, k3, k4⟩⟩ := HX.out j hjs
            rw [← hB.out.cell hb] at c0 c1 c2
            generalize hxj : xs.getD j It.blank = x at *
            clear hxj
            have hne : wr.heap.size ≠ w5.heap.size := by have := he.out.lt; omega
            have hfe := flat_drop_le xs j
            have hml : (flat (xs.drop j)).length ≤ 60600 := by omega
            clear hfe hle
            have HD : Hid (flat (xs.drop j) = itB x.k x.n x.s ++ flat (xs.drop (j + 1))) := hfd.out
            clear hfd
            by_cases h0 : x.k = 0
            · have t0 : (x.k == 0) = true := by simp [h0]
              have t1 : (x.k == 1) = false := by simp [h0]
              have N : (Eye.mk (flat (xs.drop j)) false).nat x.n = (x.n, ⟨flat (xs.drop (j + 1)), false⟩) := by
                rw [HD.out, itB, if_pos h0]; exact back_nat _ _ k3
              have C : Hid (Calls Try.prog 13 #[.pointer (some ⟨w5.heap.size, 0, none⟩), .int .u64 x.n] (wr.alloc (.cells #[.int .i64 x.k, .int .u64 x.n, .string (bstr x.s)] 30)).drew fun r w' => r = .returned (.int .u64 x.n) ∧ Left w wr w' w5.heap.size (flat (xs.drop (j + 1))) x) := by
                refine (eyeNat_any _ _ x.n _ (eye_box (x := x) he.out) (by simp only [maxLen]; omega)).mono ?_
                rintro r w' ⟨rfl, g1, g2⟩
                rw [N] at g1 ⊢
                exact ⟨rfl, left_of hB.out zE hne g1 g2⟩
              clear h0 N
              go_wp2_with fail
              go_region_with (go_at_call 13; refine Calls.mono C.out ?_; rintro r w7 ⟨rfl, e7, b7, q1, q2⟩)
              all_goals
                clear C he hB
                go_wp2
                go_roundw
                case rel => exact ⟨j + 1, by go_num, by omega, e7, b7⟩
                case measure => simp [intOf]; omega
            by_cases h1 : x.k = 1
            · have t0 : (x.k == 0) = false := by simp [h0]
              have t1 : (x.k == 1) = true := by simp [h1]
              have hwr : -9223372036854775808 ≤ wrap64 x.n ∧ wrap64 x.n ≤ 9223372036854775807 := by unfold wrap64; omega
              have N : (Eye.mk (flat (xs.drop j)) false).int = (wrap64 x.n, ⟨flat (xs.drop (j + 1)), false⟩) := by
                rw [HD.out, itB, if_neg h0, if_pos h1]; exact back_int _ _ hwr.1 hwr.2
              have C : Hid (Calls Try.prog 15 #[.pointer (some ⟨w5.heap.size, 0, none⟩)] (wr.alloc (.cells #[.int .i64 x.k, .int .u64 x.n, .string (bstr x.s)] 30)).drew fun r w' => r = .returned (.int .i64 (wrap64 x.n)) ∧ Left w wr w' w5.heap.size (flat (xs.drop (j + 1))) x) := by
                refine (eyeInt_any _ _ _ (eye_box (x := x) he.out) (by simp only [maxLen]; omega)).mono ?_
                rintro r w' ⟨rfl, g1, g2⟩
                rw [N] at g1 ⊢
                exact ⟨rfl, left_of hB.out zE hne g1 g2⟩
              clear h0 h1 N hwr
              have t2 := wrap_same x.n
              go_wp2_with fail
              go_region_with (go_at_call 15; refine Calls.mono C.out ?_; rintro r w7 ⟨rfl, e7, b7, q1, q2⟩)
              all_goals
                clear C he hB
                go_wp2
                go_roundw
                case rel => exact ⟨j + 1, by go_num, by omega, e7, b7⟩
                case measure => simp [intOf]; omega
            · have t0 : (x.k == 0) = false := by simp [h0]
              have t1 : (x.k == 1) = false := by simp [h1]
              have hz : ((bstr x.s).size : Int) = (x.s.length : Int) := by rw [bstr_size]
              have N : (Eye.mk (flat (xs.drop j)) false).text ((bstr x.s).size : Int) = (x.s, ⟨flat (xs.drop (j + 1)), false⟩) := by
                rw [HD.out, itB, if_neg h0, if_neg h1, hz]; exact back_text _ _ hs2
              have C : Hid (Calls Try.prog 17 #[.pointer (some ⟨w5.heap.size, 0, none⟩), .int .i64 ((bstr x.s).size : Int)] (wr.alloc (.cells #[.int .i64 x.k, .int .u64 x.n, .string (bstr x.s)] 30)).drew fun r w' => r = .returned (.string (bstr x.s)) ∧ Left w wr w' w5.heap.size (flat (xs.drop (j + 1))) x) := by
                refine (eyeText_any _ _ _ _ (eye_box (x := x) he.out) (by simp only; omega) (by omega) (by omega)).mono ?_
                rintro r w' ⟨rfl, g1, g2⟩
                rw [N] at g1 ⊢
                exact ⟨rfl, left_of hB.out zE hne g1 g2⟩
              clear h0 h1 N hz
              have t2 : ((bstr x.s).toList != (bstr x.s).toList) = false := by simp
              go_wp2_with fail
              go_region_with (go_at_call 17; refine Calls.mono C.out ?_; rintro r w7 ⟨rfl, e7, b7, q1, q2⟩)
              all_goals
                clear C he hB
                go_wp2
                go_roundw
                case rel => exact ⟨j + 1, by go_num, by omega, e7, b7⟩
                case measure => simp [intOf]; omega
          · obtain rfl : j = xs.length := by omega
            have hf0 : Hid (flat (xs.drop xs.length) = []) := by rw [Hid, List.drop_length]; rfl
            rw [hf0.out] at he
            go_wp2_with fail
            refine (done_any _ _ _ he.out).mono ?_
            rintro r w8 ⟨rfl, rfl⟩
            go_wp2_with fail
            refine (bad_any _ _ _ he.out.c1).mono ?_
            rintro r w9 ⟨rfl, rfl⟩
            go_wp2
            go_ret
            exact ⟨rfl, hB.out⟩

set_option maxRecDepth 100000 in
theorem lifted (os : Os) (started : os.Started) (H : Type) (enc : TypeId × Value → H) :
    ReturnsInHanded {} Try.checked os 5 .any (Rows.penBackSpec.pre6 enc Try.prog Try.f5 Rows.penBackRow.domain false) (Rows.penBackSpec.post enc Try.prog Try.f5 false true false false) := by
  refine returnsInHanded_of_change (C := Try.checked) own started (by kernel_rfl) Try.func5
    (ChangeSpec.witness6 (enc := enc) (C := Try.checked) false ⟨#[], #[.slice none 0 0], []⟩ 8 (by kernel_rfl) (by kernel_rfl) (by kernel_rfl) (by kernel_rfl)) ?_
  intro W base args ds gs before hval0 hW hcnd _
  have hval : ∀ (j : Nat) t v, Try.f5.params[j]? = some t → args[j]? = some v → Value.okWide Try.prog W .any base t v := hval0
  have hW' := hW
  obtain ⟨p, q, hA0, hV, rfl, hfz, hnd⟩ := hW
  have hA : DataW.TrodAll enc Try.prog W 0 (fun _ => true) true Try.f5.params.toList args.toList ds p := hA0
  rw [Try.params5] at hA hval
  obtain ⟨v0, vs0, d0, ds0, p0, q0, hargs, rfl, rfl, h0, r0⟩ := trodAll_cons hA
  obtain ⟨rfl, rfl, rfl⟩ := trodAll_nil r0
  obtain rfl : args = #[v0] := by cases args; simp_all
  obtain ⟨rfl, rfl⟩ := trodVars_none hV
  have k0 := h0
  have lt0 : ∀ x ∈ p0, x.block < W.heap.size := by obtain ⟨m, hm⟩ := k0; exact DataW.trod_lt m _ _ _ hm
  obtain ⟨x0, w0⟩ := open22 (hval 0 22 v0 rfl rfl) h0
  clear hA0 hval0
  refine (walk v0 x0 W w0).mono fun e W' ⟨he, bel⟩ => ?_
  subst he
  exact ⟨_, rfl, _, _, _, [], _, [], hW', trodAll_mk1 (shut_bool Try.underlying4 _), (trodAll_cons_mk (Below.trod laidOut (by kernel_rfl) (of_decide_eq_true (by kernel_rfl)) k0 bel lt0) trodAll_mk0), rfl, bel.frame _, fun h => by cases h⟩

theorem over : Rows.penBackRow.holds Try.pinned (OpenSpec.ofChange Rows.penBackSpec) :=
  OpenClaim.holds_of_wide 5 Try.f5 rfl rfl rfl rfl rfl rfl rfl ⟨rfl, rfl, rfl, rfl, rfl⟩ rfl rfl rfl rfl rfl (by kernel_rfl) Try.func5 (by kernel_rfl)
    (of_decide_eq_true (by kernel_rfl)) (by unfold Func.isWrapper; first | (rw [if_pos (by decide +kernel)]; kernel_rfl) | (rw [if_neg (by decide +kernel)]; exact ⟨rfl, rfl⟩))
    (fun os started H enc _ => lifted os started H enc)

theorem proved : Rows.PenBackSaid :=
  over
end Go.Proofs.Ytneifmjaploflaa.penBack
