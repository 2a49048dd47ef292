/- The law padlocklaw08.CalcTraps answers true at every input: only a quotient or a rest of whole numbers traps. No conditions. -/
import Derived.Test.YtefcpidegnddiaaRows
import Derived.Test.YtefcpidegnddiaaAlive
import Derived.WalkKit
import Derived.ProofKit
import Derived.OpenShut
import Derived.ShutString
import Derived.ChangeOld
import Derived.Below
import Derived.Deep.QuietTactic
import Derived.BigQuiet
import Derived.Deep.CutBlock
import Derived.Deep.CutRange
import Derived.Deep.DeepCutAuto
namespace Go.Proofs.Ytefcpidegnddiaa.calcTraps
open Go.ChangeShapes Go.WideShapes Go.ChangeAt Go.RowKit
open Go.ChangeMaps (open_string shut_string)
set_option linter.unusedVariables false

theorem own : ownKnob Try.prog.godebug = none := by kernel_rfl
theorem laidOut : laidOutB Try.prog = true := by kernel_rfl

def hit (x : Itm) : Bool := x.op == 8 && (x.bin == 3 || x.bin == 4)
def mayB (l : List Itm) : Bool := l.any hit

theorem can10 (s : Int) (x : Itm) (h : can s x = true) (h10 : x.op = 10) : x.bin = 5 ∨ x.bin = 6 := by
  obtain ⟨op, bin, n⟩ := x
  simp only at h10
  subst h10
  simp [can, tk, canJ] at h
  exact h.2

theorem run_may (sl ins : List Int) (s : Int) (l : List Itm) (st : List Int) (k : Nat) (hh : hgt s l st.length = some k) (hr : runE sl ins l st = none) : mayB l = true := by
  induction l generalizing st with
  | nil => simp [runE] at hr
  | cons x l ih =>
    obtain ⟨c1, c2, c3⟩ := hgt_can hh
    rw [runE_cons] at hr
    unfold mayB
    rw [List.any_cons]
    cases hb : stB x st with
    | true =>
      rw [hb] at hr
      have := ih (stN sl ins x st) (by rw [stN_len _ _ _ _ c2]; exact c3) hr
      unfold mayB at this
      rw [this]; simp
    | false =>
      have : hit x = true := by
        unfold stB at hb
        have hl : (st.drop (st.length - tk x.op)).length = tk x.op := by rw [List.length_drop]; omega
        match hd : st.drop (st.length - tk x.op), hl, hb with
        | [], _, hb => simp [reckB] at hb
        | [a], _, hb => simp [reckB] at hb
        | a :: b :: r, hl, hb =>
          have h2 := tk_le x.op
          have ht : tk x.op = 2 := by simp at hl; omega
          simp only [reckB, joinB] at hb
          split at hb
          · cases hb
          · rename_i h9
            have hbin : x.bin = 3 ∨ x.bin = 4 := by
              unfold intB at hb
              split at hb
              · left; simpa using ‹(x.bin == 3) = true›
              · split at hb
                · right; simpa using ‹(x.bin == 4) = true›
                · cases hb
            have hop : x.op = 8 ∨ x.op = 9 ∨ x.op = 10 := by
              unfold tk at ht
              by_cases e8 : x.op = 8
              · exact .inl e8
              by_cases e9 : x.op = 9
              · exact .inr (.inl e9)
              by_cases e10 : x.op = 10
              · exact .inr (.inr e10)
              · simp [e8, e9, e10] at ht
                exfalso
                revert ht
                split <;> (try (split <;> (try (split <;> (try split))))) <;> intro h <;> omega
            rcases hop with e | e | e
            · unfold hit
              rcases hbin with k | k <;> rw [e, k] <;> rfl
            · exact absurd (by rw [e]; rfl) h9
            · have := can10 s x c1 e
              omega
      rw [this]; rfl

theorem trap_may (sl ins : List Int) (l : List Itm) : evT sl ins l = 0 ∨ (evT sl ins l = 1 ∧ mayB l = true ∧ goodB sl.length l = true) := by
  unfold evT
  cases hg : goodB sl.length l with
  | false => left; rfl
  | true =>
    cases hr : runE sl ins l [] with
    | some st => left; rfl
    | none =>
      right
      refine ⟨rfl, ?_, rfl⟩
      exact run_may sl ins sl.length l [] 1 (good_hgt hg).1 hr

theorem may_cons (x : Itm) (l : List Itm) (q : Bool) (r : Bool) (h : (q || mayB (x :: l)) = r) : ((q || hit x) || mayB l) = r := by
  rw [← h]
  show _ = (q || (hit x || mayB l))
  rw [Bool.or_assoc]

set_option maxRecDepth 100000 in
set_option maxHeartbeats 1000000 in
theorem walk (v0 : Value) (xs : List Itm) (v1 : Value) (sl : List Int) (v2 : Value) (ins : List Int) (w : World) (w0 : IsItems w v0 xs) (w1 : IsNums .u64 w v1 sl) (w2 : IsNums .i64 w v2 ins) :
    Calls Try.prog 6 #[v0, v1, v2] w fun e w' => e = .returned (.bool true) ∧ Below w.heap.size w w' := by
  obtain ⟨xa, xc, rfl, hX⟩ := w0
  obtain ⟨sa, sc, rfl, hS⟩ := w1
  obtain ⟨ia, ic, rfl, hI⟩ := w2
  have HX := hid hX
  have HS := hid hS
  have HI := hid hI
  clear hX hS hI
  generalize hxn : xs.length = xn
  generalize hsn : sl.length = sn
  generalize him : ins.length = im
  replace hxn := hid hxn
  replace hsn := hid hsn
  replace him := hid him
  by_cases h1 : 64 < xn
  · have h1' : (64 : Int) < (xn : Int) := by omega
    clear HX HS HI
    go_enter Try.func6, Try.ntmps6
    go_wp2_with fail
    refine (alive_any _).mono ?_
    rintro r w3 ⟨rfl, hb3⟩
    go_wp2
    go_ret
    exact ⟨rfl, hb3⟩
  by_cases h2 : 100 < sn
  · have h1' : (xn : Int) ≤ 64 := by omega
    have h2' : (100 : Int) < (sn : Int) := by omega
    clear HX HS HI
    go_enter Try.func6, Try.ntmps6
    go_wp2_with fail
    refine (alive_any _).mono ?_
    rintro r w3 ⟨rfl, hb3⟩
    go_wp2
    go_ret
    exact ⟨rfl, hb3⟩
  by_cases h3 : 100 < im
  · have h1' : (xn : Int) ≤ 64 := by omega
    have h2' : (sn : Int) ≤ 100 := by omega
    have h3' : (100 : Int) < (im : Int) := by omega
    clear HX HS HI
    go_enter Try.func6, Try.ntmps6
    go_wp2_with fail
    refine (alive_any _).mono ?_
    rintro r w3 ⟨rfl, hb3⟩
    go_wp2
    go_ret
    exact ⟨rfl, hb3⟩
  · have h1' : (xn : Int) ≤ 64 := by omega
    have h2' : (sn : Int) ≤ 100 := by omega
    have h3' : (im : Int) ≤ 100 := by omega
    go_enter Try.func6, Try.ntmps6
    go_wp2_with fail
    refine (alive_any _).mono ?_
    rintro r w3 ⟨rfl, hb3⟩
    replace hb3 := hid hb3
    go_wp2_with fail
    go_loopw [7, 29] (fun t7 t wr => ∃ (j : Nat) (q : Bool), t = .int .i64 j ∧ j ≤ xn ∧ t7 = .bool q ∧ Hid ((q || mayB (xs.drop j)) = mayB xs) ∧ Hid (Below w.heap.size w wr)) (fun _ t _ => xn - (intOf t).toNat)
    case atStart => exact ⟨0, false, rfl, by omega, rfl, by simp [Hid], hb3⟩
    case round =>
      obtain ⟨j, q, rfl, hj, rfl, E, B⟩ := hrel
      by_cases hjn : j < xn
      · obtain ⟨b, off, rfl, hb, ⟨c0, c1, c2⟩, ok⟩ := HX.out j (by rw [hxn.out]; exact hjn)
        rw [← B.out.cell hb] at c0 c1 c2
        have D := hid (drop_here Itm.blank xs j (by rw [hxn.out]; exact hjn))
        generalize xs.getD j Itm.blank = x at *
        rw [D.out] at E
        have E2 := hid (may_cons _ _ _ _ E.out)
        have B2 := hid (B.out.alloc B.out.size (.cells #[.int .i64 x.op, .int .i64 x.bin, .int .u64 x.n] 36))
        clear D E HX HS HI ok B
        cases q
        · cases ho : (x.op == 8)
          · have e : Hid (hit x = false) := hid (by unfold hit; rw [ho]; rfl)
            rw [e.out] at E2
            clear e
            go_wp2
            go_roundw
            case rel => exact ⟨j + 1, false, by go_num, by omega, rfl, E2, B2⟩
            case measure => simp [intOf]; omega
          · cases h3 : (x.bin == 3)
            · have e : Hid (hit x = (x.bin == 4)) := hid (by unfold hit; rw [ho, h3]; rfl)
              rw [e.out] at E2
              clear e
              go_wp2
              go_roundw
              case rel => exact ⟨j + 1, _, by go_num, by omega, rfl, E2, B2⟩
              case measure => simp [intOf]; omega
            · have e : Hid (hit x = true) := hid (by unfold hit; rw [ho, h3]; rfl)
              rw [e.out] at E2
              clear e
              go_wp2
              go_roundw
              case rel => exact ⟨j + 1, true, by go_num, by omega, rfl, E2, B2⟩
              case measure => simp [intOf]; omega
        · go_wp2
          go_roundw
          case rel => exact ⟨j + 1, true, by go_num, by omega, rfl, E2, B2⟩
          case measure => simp [intOf]; omega
      · have hq : q = mayB xs := by
          have := E.out
          rw [List.drop_of_length_le (by rw [hxn.out]; omega)] at this
          simpa [mayB] using this
        have C := hid (eval_any xa sa ia xn xc sn sc im ic xs sl ins wr hxn.out.symm hsn.out.symm him.out.symm (HX.out.kept B.out) (HS.out.kept B.out) (HI.out.kept B.out) (by omega) (by omega) (by omega))
        rcases trap_may sl ins xs with e0 | ⟨e1, e2, e3⟩
        · rw [e0] at C
          clear HX HS HI E e0 hq
          go_wp2_with fail
          refine Calls.mono C.out ?_
          rintro r w4 ⟨rfl, hb4⟩
          have B4 := hid (B.out.trans (hb4.mono B.out.size))
          clear hb4 C
          go_wp2
          go_ret
          exact ⟨rfl, B4.out⟩
        · rw [e1] at C
          rw [e2] at hq
          subst hq
          have G := hid (fun W (h : Below wr.heap.size wr W) => good_any (sn : Int) xa xn xc xs W hxn.out.symm ((HX.out.kept B.out).kept h) (by omega) (by omega) (by omega))
          rw [hsn.out] at e3
          simp only [e3] at G
          clear HX HS HI E e1 e2 e3
          go_wp2_with fail
          refine Calls.mono C.out ?_
          rintro r w4 ⟨rfl, hb4⟩
          have B4 := hid (B.out.trans (hb4.mono B.out.size))
          have G4 := hid (G.out w4 hb4)
          clear hb4 C G
          go_wp2_with (go_at_call 11; refine Calls.mono G4.out ?_; rintro r w5 ⟨rfl, hb5⟩)
          go_ret
          exact ⟨rfl, B4.out.trans (hb5.mono B4.out.size)⟩

set_option maxRecDepth 100000 in
theorem lifted (os : Os) (started : os.Started) (H : Type) (enc : TypeId × Value → H) :
    ReturnsInHanded {} Try.checked os 6 .any (Rows.calcTrapsSpec.pre6 enc Try.prog Try.f6 Rows.calcTrapsRow.domain false) (Rows.calcTrapsSpec.post enc Try.prog Try.f6 false true false false) := by
  refine returnsInHanded_of_change (C := Try.checked) own started (by kernel_rfl) Try.func6
    (ChangeSpec.witness6 (enc := enc) (C := Try.checked) false ⟨#[], #[.slice none 0 0, .slice none 0 0, .slice none 0 0], []⟩ 8 (by kernel_rfl) (by kernel_rfl) (by kernel_rfl) (by kernel_rfl)) ?_
  intro W base args ds gs before hval0 hW hcnd _
  have hval : ∀ (j : Nat) t v, Try.f6.params[j]? = some t → args[j]? = some v → Value.okWide Try.prog W .any base t v := hval0
  have hW' := hW
  obtain ⟨p, q, hA0, hV, rfl, hfz, hnd⟩ := hW
  have hA : DataW.TrodAll enc Try.prog W 0 (fun _ => true) true Try.f6.params.toList args.toList ds p := hA0
  rw [Try.params6] at hA hval
  obtain ⟨v0, vs0, d0, ds0, p0, q0, hargs, rfl, rfl, h0, r0⟩ := trodAll_cons hA
  obtain ⟨v1, vs1, d1, ds1, p1, q1, rfl, rfl, rfl, h1, r1⟩ := trodAll_cons r0
  obtain ⟨v2, vs2, d2, ds2, p2, q2, rfl, rfl, rfl, h2, r2⟩ := trodAll_cons r1
  obtain ⟨rfl, rfl, rfl⟩ := trodAll_nil r2
  obtain rfl : args = #[v0, v1, v2] := by cases args; simp_all
  obtain ⟨rfl, rfl⟩ := trodVars_none hV
  have k0 := h0
  have lt0 : ∀ x ∈ p0, x.block < W.heap.size := by obtain ⟨m, hm⟩ := k0; exact DataW.trod_lt m _ _ _ hm
  obtain ⟨x0, w0⟩ := open22 (hval 0 22 v0 rfl rfl) h0
  have k1 := h1
  have lt1 : ∀ x ∈ p1, x.block < W.heap.size := by obtain ⟨m, hm⟩ := k1; exact DataW.trod_lt m _ _ _ hm
  obtain ⟨x1, w1⟩ := open23 (hval 1 23 v1 rfl rfl) h1
  have k2 := h2
  have lt2 : ∀ x ∈ p2, x.block < W.heap.size := by obtain ⟨m, hm⟩ := k2; exact DataW.trod_lt m _ _ _ hm
  obtain ⟨x2, w2⟩ := open24 (hval 2 24 v2 rfl rfl) h2
  clear hA0 hval0
  refine (walk v0 x0 v1 x1 v2 x2 W w0 w1 w2).mono fun e W' ⟨he, bel⟩ => ?_
  subst he
  exact ⟨_, rfl, _, _, _, [], _, [], hW', trodAll_mk1 (shut_bool Try.underlying4 _), (trodAll_cons_mk (Below.trod laidOut (by kernel_rfl) (of_decide_eq_true (by kernel_rfl)) k0 bel lt0) (trodAll_cons_mk (Below.trod laidOut (by kernel_rfl) (of_decide_eq_true (by kernel_rfl)) k1 bel lt1) (trodAll_cons_mk (Below.trod laidOut (by kernel_rfl) (of_decide_eq_true (by kernel_rfl)) k2 bel lt2) trodAll_mk0))), rfl, bel.frame _, fun h => by cases h⟩

theorem over : Rows.calcTrapsRow.holds Try.pinned (OpenSpec.ofChange Rows.calcTrapsSpec) :=
  OpenClaim.holds_of_wide 6 Try.f6 rfl rfl rfl rfl rfl rfl rfl ⟨rfl, rfl, rfl, rfl, rfl⟩ rfl rfl rfl rfl rfl (by kernel_rfl) Try.func6 (by kernel_rfl)
    (of_decide_eq_true (by kernel_rfl)) (by unfold Func.isWrapper; first | (rw [if_pos (by decide +kernel)]; kernel_rfl) | (rw [if_neg (by decide +kernel)]; exact ⟨rfl, rfl⟩))
    (fun os started H enc _ => lifted os started H enc)

theorem proved : Rows.CalcTrapsSaid :=
  over
end Go.Proofs.Ytefcpidegnddiaa.calcTraps
