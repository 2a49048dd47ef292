/- ClassMore: with a set more classes are joined, never parted: for every number of sites, all rows and every set more the law returns true and leaves its arguments as they were; the table of the library math/bits is as the program text lays it (tied card). -/
import Derived.Test.YtdpbapoahfggeaaDoorCards
import Derived.Test.YtdpbapoahfggeaaDoorTie
import Derived.Test.YtdpbapoahfggeaaDoorLaid
import Derived.Test.YtdpbapoahfggeaaDoorCmW
import Derived.Test.YtdpbapoahfggeaaDoorOpr
import Derived.WalkKit
import Derived.ProofKit
import Derived.OpenShut
import Derived.ShutString
import Derived.ChangeOld
import Derived.Below
import Derived.Deep.DeepHandedRow
import Derived.Deep.DeepWitnessRowRef
import Derived.Lay
import Derived.MakeChecks
namespace Go.Proofs.YtdpbapoahfggeaaDoor.classMore
open Go.ChangeShapes Go.WideShapes Go.ChangeAt Go.RowKit
set_option linter.unusedVariables false

theorem own : ownKnob Tryd.prog.godebug = none := by kernel_rfl
theorem laidOut : laidOutB Tryd.prog = true := by kernel_rfl

theorem i64b {a : Int} (w : (Lit.int .i64 a).wf = true) : -9223372036854775808 ≤ a ∧ a ≤ 9223372036854775807 := by
  have := w
  simp [Lit.wf] at this
  have e1 : IntKind.i64.min = -9223372036854775808 := rfl
  have e2 : IntKind.i64.max = 9223372036854775807 := rfl
  omega
theorem u64b {a : Int} (w : (Lit.int .u64 a).wf = true) : 0 ≤ a ∧ a < 18446744073709551616 := by
  have := w
  simp [Lit.wf] at this
  have e1 : IntKind.u64.min = 0 := rfl
  have e2 : IntKind.u64.max = 18446744073709551615 := rfl
  omega

set_option maxRecDepth 100000 in
set_option maxHeartbeats 1000000 in
theorem walk (a0 : Int) (v1 : Value) (L : List (List Nat)) (a2 : Int) (W : World) (w0 : (Lit.int .i64 a0).wf = true) (w1 : RowsR W v1 L ∧ Sm64 L) (w2 : (Lit.int .u64 a2).wf = true) (hT : Tab W) :
    Calls Tryd.prog 6 #[.int .i64 a0, v1, .int .u64 a2] W fun e w' => e = .returned (.bool true) ∧ Below W.heap.size W w' := by
  obtain ⟨b0, b1⟩ := u64b w2
  obtain ⟨s, rfl⟩ : ∃ s : Nat, a2 = s := ⟨a2.toNat, by omega⟩
  have CA := hid (alivec_any W hT)
  by_cases h0 : a0 < 1
  · obtain ⟨va, vc, rfl, hLn, -⟩ := w1.1.open
    have h12I : ¬ (12 : Int) < a0 := by omega
    clear w0 w1 w2 hT
    go_enter Tryd.func6, Tryd.ntmps6
    go_wp2_with (go_at_call 7; refine Calls.mono CA.out ?_; rintro _ w1 ⟨rfl, hb1⟩; have B1 := hid hb1; clear hb1 CA)
    all_goals
      go_ret
      exact ⟨rfl, B1.out⟩
  · obtain ⟨n, rfl⟩ : ∃ n : Nat, a0 = n := ⟨a0.toNat, by omega⟩
    by_cases h12 : 12 < n
    · obtain ⟨va, vc, rfl, hLn, -⟩ := w1.1.open
      have h12I : (12 : Int) < (n : Int) := by omega
      clear w0 w1 w2 hT
      go_enter Tryd.func6, Tryd.ntmps6
      go_wp2_with (go_at_call 7; refine Calls.mono CA.out ?_; rintro _ w1 ⟨rfl, hb1⟩; have B1 := hid hb1; clear hb1 CA)
      all_goals
        go_ret
        exact ⟨rfl, B1.out⟩
    · have h12I : ¬ (12 : Int) < (n : Int) := by omega
      by_cases h6 : 5 < L.length
      · obtain ⟨va, vc, rfl, hLn, -⟩ := w1.1.open
        have h6I : (5 : Int) < (L.length : Int) := by omega
        clear w0 w1 w2 hT
        go_enter Tryd.func6, Tryd.ntmps6
        go_wp2_with (go_at_call 7; refine Calls.mono CA.out ?_; rintro _ w1 ⟨rfl, hb1⟩; have B1 := hid hb1; clear hb1 CA)
        all_goals
          go_ret
          exact ⟨rfl, B1.out⟩
      · by_cases hs : s < 2 ^ n
        · exact more_walk n (by omega) (by omega) v1 L s hs W w1.1 w1.2 (by omega) hT
        · obtain ⟨va, vc, rfl, hLn, -⟩ := w1.1.open
          have h6I : ¬ (5 : Int) < (L.length : Int) := by omega
          have es0 := shl64 (n := n) (by omega)
          have hsI : ((2 ^ n : Nat) : Int) ≤ (s : Int) := by omega
          generalize hpn : (2 : Nat) ^ n = pn at es0 hsI
          clear hpn hs
          clear w0 w1 w2 hT
          go_enter Tryd.func6, Tryd.ntmps6
          go_wp2_with (go_at_call 7; refine Calls.mono CA.out ?_; rintro _ w1 ⟨rfl, hb1⟩; have B1 := hid hb1; clear hb1 CA)
          all_goals
            go_ret
            exact ⟨rfl, B1.out⟩

set_option maxRecDepth 100000 in
theorem contract (H : Type) (enc : TypeId × Value → H) (W : World) (base : Nat) (args : Array Value) (ds gs : List (DataW H)) (before : List MemPlace)
    (hval0 : ∀ (j : Nat) t v, Tryd.f6.params[j]? = some t → args[j]? = some v → Value.okWide Tryd.prog W .any base t v)
    (hW : DataW.Whole enc Tryd.prog Tryd.f6.params.toList Rows.classMoreSpec.vars false W args.toList ds gs before) (hL : laidMetH Tryd.prog Rows.classMoreRow.laid W) :
    Calls Tryd.prog 6 args W fun e W' => ∃ v, e = .returned v ∧ Rows.classMoreSpec.post enc Tryd.prog Tryd.f6 false true false false W args v W' := by
  have hval := hval0
  have hW' := hW
  obtain ⟨p, q, hA0, hV, rfl, hfz, hnd⟩ := hW
  have hA : DataW.TrodAll enc Tryd.prog W 0 (fun _ => true) true Tryd.f6.params.toList args.toList ds p := hA0
  rw [Tryd.params6] at hA hval
  obtain ⟨v0, vs0, d0, ds0, p0, q0, hargs, rfl, rfl, h0, r0⟩ := trodAll_cons hA
  obtain ⟨v1, vs1, d1, ds1, p1, q1, rfl, rfl, rfl, h1, r1⟩ := trodAll_cons r0
  obtain ⟨v2, vs2, d2, ds2, p2, q2, rfl, rfl, rfl, h2, r2⟩ := trodAll_cons r1
  obtain ⟨rfl, rfl, rfl⟩ := trodAll_nil r2
  obtain rfl : args = #[v0, v1, v2] := by cases args; simp_all
  obtain ⟨rfl, rfl⟩ := trodVars_none hV
  obtain ⟨a0, rfl, rfl, rfl, w0⟩ := open_int Tryd.underlying3 (hval 0 3 v0 rfl rfl) h0
  have k1 := h1
  have lt1 : ∀ x ∈ p1, x.block < W.heap.size := by obtain ⟨m, hm⟩ := k1; exact DataW.trod_lt m _ _ _ hm
  obtain ⟨x1, w1⟩ := open22 (hval 1 22 v1 rfl rfl) h1
  obtain ⟨a2, rfl, rfl, rfl, w2⟩ := open_int Tryd.underlying23 (hval 2 23 v2 rfl rfl) h2
  clear hA0 hval0
  have hE := laid_gives hL
  refine (walk a0 v1 x1 a2 W w0 w1 w2 hE).mono fun e W' ⟨he, bel⟩ => ?_
  subst he
  exact ⟨_, rfl, _, _, _, [], _, [], hW', trodAll_mk1 (shut_bool Tryd.underlying4 _), (trodAll_cons_mk (shut_int Tryd.underlying3 w0) (trodAll_cons_mk (Below.trod laidOut (by kernel_rfl) (of_decide_eq_true (by kernel_rfl)) k1 bel lt1) (trodAll_cons_mk (shut_int Tryd.underlying23 w2) trodAll_mk0))), rfl, bel.frame _, fun h => by cases h⟩

theorem laid_met (os : Os) : laidMetH Tryd.prog Rows.classMoreRow.laid ((World.laidAll Tryd.prog os Rows.classMoreRow.laid).forCall (fun _ _ => 0) ⟨#[], #[.int .i64 0, .slice none 0 0, .int .u64 0], []⟩).memory := by
  rw [MakeChecks.laidMetH_plain _ _ _ (by kernel_rfl)]
  exact laidMet_laidAll _ (by kernel_rfl) (by kernel_rfl)
theorem reads (os : Os) {H : Type} (enc : TypeId × Value → H) : ∃ places, DataW.whole enc Tryd.prog ((World.laidAll Tryd.prog os Rows.classMoreRow.laid).forCall (fun _ _ => 0) ⟨#[], #[.int .i64 0, .slice none 0 0, .int .u64 0], []⟩).memory Tryd.f6.params.toList Rows.classMoreSpec.vars false (#[.int .i64 0, .slice none 0 0, .int .u64 0] : Array Value).toList 8 = some ([.lit (.int .i64 0), .nil, .lit (.int .u64 0)], [], places) :=
  ⟨[], by kernel_rfl⟩

set_option maxRecDepth 100000 in
theorem lifted (os : Os) (started : os.Started) (H : Type) (enc : TypeId × Value → H) (F : Stop.Interp) :
    ReturnsInHanded {} Tryd.checked os 6 .any ((OpenSpec.ofChange Rows.classMoreSpec).preRow enc Tryd.prog Tryd.f6 Rows.classMoreRow.domain false Rows.classMoreRow.laid) (((OpenSpec.ofChange Rows.classMoreSpec).at F).post enc Tryd.prog Tryd.f6 false true false false) := by
  obtain ⟨places, hx⟩ := reads os enc
  refine returnsInHanded_of_row (C := Tryd.checked) (s := OpenSpec.ofChange Rows.classMoreSpec) own started (by kernel_rfl) Tryd.func6
    (witness_row_atRef (enc := enc) (C := Tryd.checked) false (World.laidAll Tryd.prog os Rows.classMoreRow.laid) #[.int .i64 0, .slice none 0 0, .int .u64 0] (World.laidAll_os _ _ _) (by kernel_rfl) (by kernel_rfl) (by kernel_rfl)
      (OpenSpec.preRow_of_cond 8 hx (by kernel_rfl) (fun k hk => by cases hk) (by kernel_rfl) (laid_met os))) ?_
  intro W base args ds gs before hval hW _ _ _ hL _ _
  exact contract H enc W base args ds gs before hval hW hL

theorem said : Rows.ClassMoreSaid :=
  OpenClaim.holds_of_cond 6 Tryd.f6 rfl rfl rfl rfl rfl rfl rfl ⟨rfl, rfl, rfl, rfl, rfl⟩ rfl rfl rfl rfl rfl (by kernel_rfl) Tryd.func6 (by kernel_rfl)
    (of_decide_eq_true (by kernel_rfl)) (by unfold Func.isWrapper; first | (rw [if_pos (by decide +kernel)]; kernel_rfl) | (rw [if_neg (by decide +kernel)]; exact ⟨rfl, rfl⟩))
    (fun os started H enc _ F => by rw [OpenClaim.pre_eq_preRow]; exact lifted os started H enc F)

theorem plain (f : FuncId) (fn : Func) (hf : Tryd.pinned.checked.prog.funcNamed Rows.classMoreRow.func = some f) (hfn : Tryd.pinned.checked.prog.funcs[f]? = some fn) :
    false = Tryd.pinned.checked.prog.looks [] ∧ ∀ (j : Nat) t, fn.params[j]? = some t → Tryd.pinned.checked.prog.wantsStandIn t = false := by
  obtain rfl : f = 6 := Option.some.inj ((show Tryd.prog.funcNamed Rows.classMoreRow.func = some 6 by kernel_rfl).symm.trans hf) |>.symm
  obtain rfl : fn = Tryd.f6 := (Option.some.inj (Tryd.func6.symm.trans hfn)).symm
  refine ⟨by kernel_rfl, fun j t ht => ?_⟩
  rw [Tryd.params6] at ht
  obtain (rfl | rfl | rfl) : t = 3 ∨ t = 22 ∨ t = 23 := by simpa using Array.mem_of_getElem? ht
  · exact (show Tryd.prog.wantsStandIn 3 = false by kernel_rfl)
  · exact (show Tryd.prog.wantsStandIn 22 = false by kernel_rfl)
  · exact (show Tryd.prog.wantsStandIn 23 = false by kernel_rfl)

theorem proved : Rows.ClassMoreCardSaid :=
  Claim7.holds_tied_plain_at .later [] _ _ _ _ said (fun _ h => by cases h) (by kernel_rfl) (fun _ h => by cases h) classMore_row_tie rfl ⟨rfl, rfl⟩ (by kernel_rfl) rfl plain (by kernel_rfl)
end Go.Proofs.YtdpbapoahfggeaaDoor.classMore
