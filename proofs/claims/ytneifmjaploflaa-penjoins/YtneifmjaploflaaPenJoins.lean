/- The law padlocklaw02.PenJoins answers true at every input: what is put by one pen is what two put, one behind the other. No conditions. -/
import Derived.Test.YtneifmjaploflaaRows
import Derived.Test.YtneifmjaploflaaMath
import Derived.Test.YtneifmjaploflaaFirst
import Derived.Test.YtneifmjaploflaaEyes
import Derived.Test.YtneifmjaploflaaApps
import Derived.Test.YtneifmjaploflaaPens
import Derived.Test.YtneifmjaploflaaAlive
import Derived.Test.YtneifmjaploflaaRefs
import Derived.Test.YtneifmjaploflaaPuts
import Derived.Test.YtneifmjaploflaaItems
import Derived.WalkKit
import Derived.ProofKit
import Derived.OpenShut
import Derived.ShutString
import Derived.ChangeOld
import Derived.Below
import Derived.Deep.QuietTactic
import Derived.BigQuiet
import Derived.Deep.CutBlock
import Derived.Deep.CutRange
import Derived.Deep.DeepCutAuto
namespace Go.Proofs.Ytneifmjaploflaa.penJoins
open Go.ChangeShapes Go.WideShapes Go.ChangeAt Go.RowKit
open Go.ChangeMaps (open_string shut_string)
set_option linter.unusedVariables false

theorem own : ownKnob Try.prog.godebug = none := by kernel_rfl
theorem laidOut : laidOutB Try.prog = true := by kernel_rfl

open PenMath

/-- The bytes of items. -/
def flat (xs : List It) : List UInt8 := xs.flatMap fun x => itB x.k x.n x.s
theorem getD_at (xs : List It) (j : Nat) (h : j < xs.length) : xs.getD j It.blank = xs[j] := by simp [List.getD, h]
theorem flat_take (xs : List It) (j : Nat) (h : j < xs.length) : flat (xs.take (j + 1)) = flat (xs.take j) ++ itB (xs.getD j It.blank).k (xs.getD j It.blank).n (xs.getD j It.blank).s := by
  unfold flat
  rw [List.take_succ_eq_append_getElem h, List.flatMap_append, getD_at xs j h]
  simp only [List.flatMap_cons, List.flatMap_nil, List.append_nil]

/-- Two pens that share nothing. -/
def Apart (b1 : Nat) (v1 : Value) (b2 : Nat) (v2 : Value) : Prop := ∀ k, Own b1 v1 k → ¬ Own b2 v2 k

theorem apart_next {w : World} {b1 b2 : Nat} {v1 v1' v2 : Value} (h : Apart b1 v1 b2 v2) (hl : Lies w v1 v1') (h2 : ∀ k, Own b2 v2 k → k < w.heap.size) : Apart b1 v1' b2 v2 := by
  rintro k (hk | hk) h3
  · exact h k (.inl hk) h3
  · rcases hl k hk with h4 | h4
    · exact h k (.inr h4) h3
    · have := h2 k h3; omega

theorem apart_symm {b1 b2 : Nat} {v1 v2 : Value} (h : Apart b1 v1 b2 v2) : Apart b2 v2 b1 v1 := fun k h1 h2 => h k h2 h1

theorem own_lt {base b : Nat} {w : World} {v : Value} {l : List UInt8} (h : PenAt base w b v l) : ∀ k, Own b v k → k < w.heap.size := by
  rintro k (hk | hk)
  · subst hk; exact h.size
  · exact (h.from k hk).2

theorem own_from {base b B : Nat} {w : World} {v : Value} {l : List UInt8} (h : PenAt base w b v l) (h1 : B ≤ b) (h2 : B ≤ base) : ∀ k, Own b v k → B ≤ k := by
  rintro k (hk | hk)
  · subst hk; exact h1
  · have := (h.from k hk).1; omega

/-- Three pens, apart from each other. -/
structure Three (n : Nat) (w : World) (v1 v2 v3 : Value) (l1 l2 l3 : List UInt8) : Prop where
  p1 : PenAt (n + 3) w n v1 l1
  p2 : PenAt (n + 3) w (n + 1) v2 l2
  p3 : PenAt (n + 3) w (n + 2) v3 l3
  a12 : Apart n v1 (n + 1) v2
  a13 : Apart n v1 (n + 2) v3
  a23 : Apart (n + 1) v2 (n + 2) v3

theorem Three.alloc {n : Nat} {w : World} {v1 v2 v3 : Value} {l1 l2 l3 : List UInt8} (h : Three n w v1 v2 v3 l1 l2 l3) (o : Obj) : Three n (w.alloc o) v1 v2 v3 l1 l2 l3 :=
  ⟨h.p1.kept (F := fun _ => False) ((Touch.refl _ _).alloc _) (fun _ _ h => h), h.p2.kept (F := fun _ => False) ((Touch.refl _ _).alloc _) (fun _ _ h => h), h.p3.kept (F := fun _ => False) ((Touch.refl _ _).alloc _) (fun _ _ h => h), h.a12, h.a13, h.a23⟩

theorem Three.put1 {n : Nat} {w w' : World} {v1 v2 v3 v : Value} {l1 l2 l3 l : List UInt8} (h : Three n w v1 v2 v3 l1 l2 l3) (hp : PenAt (n + 3) w' n v l) (ht : Touch (Own n v1) w w') (hl : Lies w v1 v) : Three n w' v v2 v3 l l2 l3 :=
  ⟨hp, h.p2.kept ht (fun k h1 h2 => h.a12 k h2 h1), h.p3.kept ht (fun k h1 h2 => h.a13 k h2 h1), apart_next h.a12 hl (own_lt h.p2), apart_next h.a13 hl (own_lt h.p3), h.a23⟩
theorem Three.put2 {n : Nat} {w w' : World} {v1 v2 v3 v : Value} {l1 l2 l3 l : List UInt8} (h : Three n w v1 v2 v3 l1 l2 l3) (hp : PenAt (n + 3) w' (n + 1) v l) (ht : Touch (Own (n + 1) v2) w w') (hl : Lies w v2 v) : Three n w' v1 v v3 l1 l l3 :=
  ⟨h.p1.kept ht (fun k h1 h2 => h.a12 k h1 h2), hp, h.p3.kept ht (fun k h1 h2 => h.a23 k h2 h1), apart_symm (apart_next (apart_symm h.a12) hl (own_lt h.p1)), h.a13, apart_next h.a23 hl (own_lt h.p3)⟩
theorem Three.put3 {n : Nat} {w w' : World} {v1 v2 v3 v : Value} {l1 l2 l3 l : List UInt8} (h : Three n w v1 v2 v3 l1 l2 l3) (hp : PenAt (n + 3) w' (n + 2) v l) (ht : Touch (Own (n + 2) v3) w w') (hl : Lies w v3 v) : Three n w' v1 v2 v l1 l2 l :=
  ⟨h.p1.kept ht (fun k h1 h2 => h.a13 k h1 h2), h.p2.kept ht (fun k h1 h2 => h.a23 k h1 h2), hp, h.a12, apart_symm (apart_next (apart_symm h.a13) hl (own_lt h.p1)), apart_symm (apart_next (apart_symm h.a23) hl (own_lt h.p2))⟩

theorem three_new (w : World) : Three w.heap.size (((w.alloc (.cells #[.slice none 0 0] 26)).alloc (.cells #[.slice none 0 0] 26)).alloc (.cells #[.slice none 0 0] 26)) (.slice none 0 0) (.slice none 0 0) (.slice none 0 0) [] [] [] := by
  have e : ∀ i, i < 3 → (((w.alloc (.cells #[.slice none 0 0] 26)).alloc (.cells #[.slice none 0 0] 26)).alloc (.cells #[.slice none 0 0] 26)).heap[w.heap.size + i]? = some (.cells #[.slice none 0 0] 26 (0, 0)) := by
    intro i hi
    match i, hi with
    | 0, _ =>
      rw [Below.heap_alloc _ _ _ (by simp; omega), Below.heap_alloc _ _ _ (by simp)]
      exact heap_alloc_new w _
    | 1, _ =>
      rw [Below.heap_alloc _ _ _ (by simp)]
      have := heap_alloc_new (w.alloc (.cells #[.slice none 0 0] 26)) (.cells #[.slice none 0 0] 26)
      rw [World.size_alloc] at this
      exact this
    | 2, _ =>
      have := heap_alloc_new ((w.alloc (.cells #[.slice none 0 0] 26)).alloc (.cells #[.slice none 0 0] 26)) (.cells #[.slice none 0 0] 26)
      rw [World.size_alloc, World.size_alloc] at this
      exact this
  have ap : ∀ a b : Nat, a ≠ b → Apart a (.slice none 0 0) b (.slice none 0 0) := by
    rintro a b hab k (hk | hk) (h2 | h2)
    · omega
    · simp [Value.ownBlock] at h2
    · simp [Value.ownBlock] at hk
    · simp [Value.ownBlock] at hk
  exact ⟨pen_new _ _ _ (e 0 (by omega)) (by omega) (by simp), pen_new _ _ _ (e 1 (by omega)) (by omega) (by simp), pen_new _ _ _ (e 2 (by omega)) (by omega) (by simp), ap _ _ (by omega), ap _ _ (by omega), ap _ _ (by omega)⟩

set_option maxRecDepth 100000 in
set_option maxHeartbeats 1000000 in
theorem walk (v0 : Value) (xs : List It) (v1 : Value) (ys : List It) (w : World) (w0 : IsItems w v0 xs) (w1 : IsItems w v1 ys) :
    Calls Try.prog 7 #[v0, v1] w fun e w' => e = .returned (.bool true) ∧ Below w.heap.size w w' := by
  obtain ⟨a, cap, rfl, hx⟩ := w0
  obtain ⟨a', cap', rfl, hy⟩ := w1
  by_cases h60 : 60 < xs.length ∨ 60 < ys.length
  · clear hx hy
    rcases h60 with h | h
    · have h' : (60 : Int) < (xs.length : Int) := by omega
      go_enter Try.func7, Try.ntmps7
      go_wp2_with fail
      refine (alive_any _).mono ?_
      rintro r w1 ⟨rfl, hb1⟩
      go_wp2
      go_ret
      exact ⟨rfl, hb1⟩
    · have h' : (60 : Int) < (ys.length : Int) := by omega
      by_cases h2 : 60 < xs.length
      all_goals
        go_enter Try.func7, Try.ntmps7
        go_wp2_with fail
        refine (alive_any _).mono ?_
        rintro r w1 ⟨rfl, hb1⟩
        go_wp2
        go_ret
        exact ⟨rfl, hb1⟩
  · have h' : (xs.length : Int) ≤ 60 := by omega
    have h2 : (ys.length : Int) ≤ 60 := by omega
    have HX : Hid _ := hx
    have HY : Hid _ := hy
    clear hx hy
    go_enter Try.func7, Try.ntmps7
    go_wp2_with fail
    refine (alive_any _).mono ?_
    rintro r w1 ⟨rfl, hb1⟩
    have z1 := hb1.size
    have B1 : Hid _ := hb1
    clear hb1
    go_wp2_with fail
    go_loopw [24] (fun t wr => ∃ (j : Nat) (u1 u2 u3 : Value), t = .int .i64 j ∧ j ≤ xs.length ∧ Hid ((flat (xs.take j)).length ≤ 1010 * j) ∧ Hid (Three w1.heap.size wr u1 u2 u3 (flat (xs.take j)) [] (flat (xs.take j))) ∧ Hid (Below w.heap.size w wr)) (fun t _ => xs.length - (intOf t).toNat)
    case atStart =>
      refine ⟨0, _, _, _, rfl, by omega, ?_, three_new w1, ?_⟩
      · simp [Hid, flat]
      · exact ((B1.out.alloc (by omega) _).alloc (by simp; omega) _).alloc (by simp; omega) _
    case round =>
      obtain ⟨j, u1, u2, u3, rfl, hj, hl, hp, hB⟩ := hrel
      by_cases hjs : j < xs.length
      · have hft : Hid _ := flat_take xs j hjs
        obtain ⟨b, off, rfl, hb, ⟨c0, c1, c2⟩, ⟨k1, k2, k3, k4⟩⟩ := HX.out j hjs
        rw [← hB.out.cell hb] at c0 c1 c2
        generalize hxj : xs.getD j It.blank = x at *
        clear hxj
        have hz : Hid ((bstr x.s).size = x.s.length) := bstr_size x.s
        by_cases hs : 1000 < (bstr x.s).size
        · have hs' : (1000 : Int) < ((bstr x.s).size : Int) := by omega
          clear hp HX HY hft
          go_wp2
          go_ret
          exact ⟨rfl, hB.out.alloc hB.out.size _⟩
        · have hs' : ((bstr x.s).size : Int) ≤ 1000 := by omega
          have hs2 : x.s.length ≤ 1000 := by rw [← hz.out]; omega
          have hpa := hp.out.alloc (.cells #[.int .i64 x.k, .int .u64 x.n, .string (bstr x.s)] 30)
          have HPA : Hid _ := hpa
          clear hpa
          have hit := itB_len x.k x.n x.s k3 hs2
          go_wp2_with fail
          refine (put_any _ _ _ _ _ _ _ _ HPA.out.p1 k3 hs2 (by have := hl.out; omega)).mono ?_
          rintro r w3 ⟨rfl, v3, p3, t3, l3⟩
          have hbx := box_kept hp.out.p1 t3
          have d0 : w3.cell? ⟨wr.heap.size, 0, none⟩ = some (.int .i64 x.k) := by simp [World.cell?, hbx]
          have d1 : w3.cell? ⟨wr.heap.size, 1, none⟩ = some (.int .u64 x.n) := by simp [World.cell?, hbx]
          have d2 : w3.cell? ⟨wr.heap.size, 2, none⟩ = some (.string (bstr x.s)) := by simp [World.cell?, hbx]
          have B3 : Hid (Below w.heap.size w w3) := (hB.out.alloc hB.out.size _).trans (t3.below (by have := hB.out.size; simp; omega) (own_from hp.out.p1 (by omega) (by omega)))
          have T3 : Hid _ := HPA.out.put1 p3 t3 l3
          clear HPA hp p3 t3 l3 hbx c0 c1 c2
          go_wp2_with fail
          refine (put_any _ _ _ _ _ _ _ _ T3.out.p3 k3 hs2 (by have := hl.out; omega)).mono ?_
          rintro r w4 ⟨rfl, v4, p4, t4, l4⟩
          have B4 : Hid (Below w.heap.size w w4) := B3.out.trans (t4.below B3.out.size (own_from T3.out.p3 (by omega) (by omega)))
          have T4 := T3.out.put3 p4 t4 l4
          rw [← hft.out] at T4
          have T5 : Hid _ := T4
          have hl3 : Hid ((flat (xs.take (j + 1))).length ≤ 1010 * (j + 1)) := by
            rw [Hid, hft.out, List.length_append]
            have := hl.out
            omega
          clear T4 T3 p4 t4 l4 B3 hB HX HY hz hft hl d0 d1 d2
          go_wp2
          go_roundw
          case rel => exact ⟨j + 1, _, _, _, by go_num, by omega, hl3, T5, B4⟩
          case measure => simp [intOf]; omega
      · obtain rfl : j = xs.length := by omega
        rw [List.take_length] at hp hl
        go_wp2_with fail
        go_loopw [39] (fun t wr => ∃ (j : Nat) (u1 u2 u3 : Value), t = .int .i64 j ∧ j ≤ ys.length ∧ Hid ((flat (ys.take j)).length ≤ 1010 * j) ∧ Hid (Three w1.heap.size wr u1 u2 u3 (flat xs) (flat (ys.take j)) (flat xs ++ flat (ys.take j))) ∧ Hid (Below w.heap.size w wr)) (fun t _ => ys.length - (intOf t).toNat)
        case atStart =>
          refine ⟨0, u1, u2, u3, rfl, by omega, ?_, ?_, hB⟩
          · simp [Hid, flat]
          · simp only [List.take_zero]
            rw [show flat [] = [] from rfl, List.append_nil]
            exact hp
        case round =>
          clear hp hB u1 u2 u3
          obtain ⟨j, u1, u2, u3, rfl, hj', hl', hp, hB⟩ := hrel
          by_cases hjs' : j < ys.length
          · have hft : Hid _ := flat_take ys j hjs'
            obtain ⟨b, off, rfl, hb, ⟨c0, c1, c2⟩, ⟨k1, k2, k3, k4⟩⟩ := HY.out j hjs'
            rw [← hB.out.cell hb] at c0 c1 c2
            generalize hxj : ys.getD j It.blank = x at *
            clear hxj
            have hz : Hid ((bstr x.s).size = x.s.length) := bstr_size x.s
            by_cases hs : 1000 < (bstr x.s).size
            · have hs' : (1000 : Int) < ((bstr x.s).size : Int) := by omega
              clear hp HX HY hft
              go_wp2
              go_ret
              exact ⟨rfl, hB.out.alloc hB.out.size _⟩
            · have hs' : ((bstr x.s).size : Int) ≤ 1000 := by omega
              have hs2 : x.s.length ≤ 1000 := by rw [← hz.out]; omega
              have hpa := hp.out.alloc (.cells #[.int .i64 x.k, .int .u64 x.n, .string (bstr x.s)] 30)
              have HPA : Hid _ := hpa
              clear hpa
              have hit := itB_len x.k x.n x.s k3 hs2
              go_wp2_with fail
              refine (put_any _ _ _ _ _ _ _ _ HPA.out.p2 k3 hs2 (by have := hl'.out; omega)).mono ?_
              rintro r w3 ⟨rfl, v3, p3, t3, l3⟩
              have hbx := box_kept hp.out.p2 t3
              have d0 : w3.cell? ⟨wr.heap.size, 0, none⟩ = some (.int .i64 x.k) := by simp [World.cell?, hbx]
              have d1 : w3.cell? ⟨wr.heap.size, 1, none⟩ = some (.int .u64 x.n) := by simp [World.cell?, hbx]
              have d2 : w3.cell? ⟨wr.heap.size, 2, none⟩ = some (.string (bstr x.s)) := by simp [World.cell?, hbx]
              have B3 : Hid (Below w.heap.size w w3) := (hB.out.alloc hB.out.size _).trans (t3.below (by have := hB.out.size; simp; omega) (own_from hp.out.p2 (by omega) (by omega)))
              have T3 : Hid _ := HPA.out.put2 p3 t3 l3
              clear HPA hp p3 t3 l3 hbx c0 c1 c2
              go_wp2_with fail
              refine (put_any _ _ _ _ _ _ _ _ T3.out.p3 k3 hs2 (by have := hl.out; have := hl'.out; rw [List.length_append]; omega)).mono ?_
              rintro r w4 ⟨rfl, v4, p4, t4, l4⟩
              have B4 : Hid (Below w.heap.size w w4) := B3.out.trans (t4.below B3.out.size (own_from T3.out.p3 (by omega) (by omega)))
              have T4 := T3.out.put3 p4 t4 l4
              rw [List.append_assoc, ← hft.out] at T4
              have T5 : Hid _ := T4
              have hl3 : Hid ((flat (ys.take (j + 1))).length ≤ 1010 * (j + 1)) := by
                rw [Hid, hft.out, List.length_append]
                have := hl'.out
                omega
              clear T4 T3 p4 t4 l4 B3 hB HX HY hz hft hl' d0 d1 d2
              go_wp2
              go_roundw
              case rel => exact ⟨j + 1, _, _, _, by go_num, by omega, hl3, T5, B4⟩
              case measure => simp [intOf]; omega
          · obtain rfl : j = ys.length := by omega
            rw [List.take_length] at hp hl'
            have E : Hid (bstr (flat xs) ++ bstr (flat ys) = bstr (flat xs ++ flat ys)) := by
              apply WideShapes.bytes_inj
              simp [bstr]
            have y1 : ((bstr (flat xs)).size : Int) ≤ 100000 := by rw [bstr_size]; have := hl.out; omega
            have y2 : ((bstr (flat ys)).size : Int) ≤ 100000 := by rw [bstr_size]; have := hl'.out; omega
            go_wp2_with fail
            refine (penBytes_any _ _ _ _ _ hp.out.p3).mono ?_
            rintro r w5 ⟨rfl, rfl⟩
            go_wp2_with fail
            refine (penBytes_any _ _ _ _ _ hp.out.p1).mono ?_
            rintro r w5 ⟨rfl, rfl⟩
            go_wp2_with fail
            refine (penBytes_any _ _ _ _ _ hp.out.p2).mono ?_
            rintro r w5 ⟨rfl, rfl⟩
            rw [← E.out]
            go_wp2
            go_ret
            exact ⟨by simp, hB.out⟩

set_option maxRecDepth 100000 in
theorem lifted (os : Os) (started : os.Started) (H : Type) (enc : TypeId × Value → H) :
    ReturnsInHanded {} Try.checked os 7 .any (Rows.penJoinsSpec.pre6 enc Try.prog Try.f7 Rows.penJoinsRow.domain false) (Rows.penJoinsSpec.post enc Try.prog Try.f7 false true false false) := by
  refine returnsInHanded_of_change (C := Try.checked) own started (by kernel_rfl) Try.func7
    (ChangeSpec.witness6 (enc := enc) (C := Try.checked) false ⟨#[], #[.slice none 0 0, .slice none 0 0], []⟩ 8 (by kernel_rfl) (by kernel_rfl) (by kernel_rfl) (by kernel_rfl)) ?_
  intro W base args ds gs before hval0 hW hcnd _
  have hval : ∀ (j : Nat) t v, Try.f7.params[j]? = some t → args[j]? = some v → Value.okWide Try.prog W .any base t v := hval0
  have hW' := hW
  obtain ⟨p, q, hA0, hV, rfl, hfz, hnd⟩ := hW
  have hA : DataW.TrodAll enc Try.prog W 0 (fun _ => true) true Try.f7.params.toList args.toList ds p := hA0
  rw [Try.params7] at hA hval
  obtain ⟨v0, vs0, d0, ds0, p0, q0, hargs, rfl, rfl, h0, r0⟩ := trodAll_cons hA
  obtain ⟨v1, vs1, d1, ds1, p1, q1, rfl, rfl, rfl, h1, r1⟩ := trodAll_cons r0
  obtain ⟨rfl, rfl, rfl⟩ := trodAll_nil r1
  obtain rfl : args = #[v0, v1] := by cases args; simp_all
  obtain ⟨rfl, rfl⟩ := trodVars_none hV
  have k0 := h0
  have lt0 : ∀ x ∈ p0, x.block < W.heap.size := by obtain ⟨m, hm⟩ := k0; exact DataW.trod_lt m _ _ _ hm
  obtain ⟨x0, w0⟩ := open22 (hval 0 22 v0 rfl rfl) h0
  have k1 := h1
  have lt1 : ∀ x ∈ p1, x.block < W.heap.size := by obtain ⟨m, hm⟩ := k1; exact DataW.trod_lt m _ _ _ hm
  obtain ⟨x1, w1⟩ := open22 (hval 1 22 v1 rfl rfl) h1
  clear hA0 hval0
  refine (walk v0 x0 v1 x1 W w0 w1).mono fun e W' ⟨he, bel⟩ => ?_
  subst he
  exact ⟨_, rfl, _, _, _, [], _, [], hW', trodAll_mk1 (shut_bool Try.underlying4 _), (trodAll_cons_mk (Below.trod laidOut (by kernel_rfl) (of_decide_eq_true (by kernel_rfl)) k0 bel lt0) (trodAll_cons_mk (Below.trod laidOut (by kernel_rfl) (of_decide_eq_true (by kernel_rfl)) k1 bel lt1) trodAll_mk0)), rfl, bel.frame _, fun h => by cases h⟩

theorem over : Rows.penJoinsRow.holds Try.pinned (OpenSpec.ofChange Rows.penJoinsSpec) :=
  OpenClaim.holds_of_wide 7 Try.f7 rfl rfl rfl rfl rfl rfl rfl ⟨rfl, rfl, rfl, rfl, rfl⟩ rfl rfl rfl rfl rfl (by kernel_rfl) Try.func7 (by kernel_rfl)
    (of_decide_eq_true (by kernel_rfl)) (by unfold Func.isWrapper; first | (rw [if_pos (by decide +kernel)]; kernel_rfl) | (rw [if_neg (by decide +kernel)]; exact ⟨rfl, rfl⟩))
    (fun os started H enc _ => lifted os started H enc)

theorem proved : Rows.PenJoinsSaid :=
  over
end Go.Proofs.Ytneifmjaploflaa.penJoins
