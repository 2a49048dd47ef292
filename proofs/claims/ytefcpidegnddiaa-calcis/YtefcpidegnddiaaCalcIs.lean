/- The law padlocklaw08.CalcIs answers true at every input: Good, Eval and Uses answer what the document says. No conditions. -/
import Derived.Test.YtefcpidegnddiaaRows
import Derived.Test.YtefcpidegnddiaaVals
import Derived.Test.YtefcpidegnddiaaUses
import Derived.WalkKit
import Derived.ProofKit
import Derived.OpenShut
import Derived.ShutString
import Derived.ChangeOld
import Derived.Below
import Derived.Deep.QuietTactic
import Derived.BigQuiet
import Derived.Deep.CutBlock
import Derived.Deep.CutRange
import Derived.Deep.DeepCutAuto
namespace Go.Proofs.Ytefcpidegnddiaa.calcIs
open Go.ChangeShapes Go.WideShapes Go.ChangeAt Go.RowKit
open Go.ChangeMaps (open_string shut_string)
set_option linter.unusedVariables false

theorem own : ownKnob Try.prog.godebug = none := by kernel_rfl
theorem laidOut : laidOutB Try.prog = true := by kernel_rfl

theorem uses_yes (x : Itm) (l : List Itm) (h : (x.op == 2) = true) : usesL (x :: l) = wrap64 x.n :: usesL l := by
  show (if _ then _ else _) = _
  rw [h]; rfl
theorem uses_no (x : Itm) (l : List Itm) (h : (x.op == 2) = false) : usesL (x :: l) = usesL l := by
  show (if _ then _ else _) = _
  rw [h]; rfl

theorem drop_cons {l : List Int} {t : Nat} {v : Int} {r : List Int} (h : l.drop t = v :: r) : t < l.length ∧ l.getD t 0 = v ∧ l.drop (t + 1) = r := by
  have ht : t < l.length := by
    by_cases q : t < l.length
    · exact q
    · rw [List.drop_of_length_le (by omega)] at h; cases h
  rw [drop_here 0 l t ht] at h
  injection h with h1 h2
  exact ⟨ht, h1, h2⟩

set_option maxRecDepth 100000 in
set_option maxHeartbeats 1000000 in
theorem walk (v0 : Value) (xs : List Itm) (v1 : Value) (sl : List Int) (v2 : Value) (ins : List Int) (nn : Int) (w : World) (w0 : IsItems w v0 xs) (w1 : IsNums .u64 w v1 sl) (w2 : IsNums .i64 w v2 ins) (wf3 : (Lit.int .i64 nn).wf = true) :
    Calls Try.prog 3 #[v0, v1, v2, .int .i64 nn] w fun e w' => e = .returned (.bool true) ∧ Below w.heap.size w w' := by
  obtain ⟨xa, xc, rfl, hX⟩ := w0
  obtain ⟨sa, sc, rfl, hS⟩ := w1
  obtain ⟨ia, ic, rfl, hI⟩ := w2
  obtain ⟨nn0, nn1⟩ := bounds_i64 wf3
  have HX := hid hX
  have HS := hid hS
  have HI := hid hI
  clear hX hS hI wf3
  generalize hxn : xs.length = xn
  generalize hsn : sl.length = sn
  generalize him : ins.length = im
  replace hxn := hid hxn
  replace hsn := hid hsn
  replace him := hid him
  by_cases h1 : 200 < xn
  · skip
    have qxn : (200 : Int) < (xn : Int) := by omega
    clear HX HS HI
    go_enter Try.func3, Try.ntmps3
    go_wp2_with fail
    refine (alive_any _).mono ?_
    rintro r w3 ⟨rfl, hb3⟩
    go_wp2
    go_ret
    exact ⟨rfl, hb3⟩
  by_cases h2 : 200 < sn
  · skip
    have qxn : (xn : Int) ≤ 200 := by omega
    have qsn : (200 : Int) < (sn : Int) := by omega
    clear HX HS HI
    go_enter Try.func3, Try.ntmps3
    go_wp2_with fail
    refine (alive_any _).mono ?_
    rintro r w3 ⟨rfl, hb3⟩
    go_wp2
    go_ret
    exact ⟨rfl, hb3⟩
  by_cases h3 : 100 < im
  · skip
    have qxn : (xn : Int) ≤ 200 := by omega
    have qsn : (sn : Int) ≤ 200 := by omega
    have qim : (100 : Int) < (im : Int) := by omega
    clear HX HS HI
    go_enter Try.func3, Try.ntmps3
    go_wp2_with fail
    refine (alive_any _).mono ?_
    rintro r w3 ⟨rfl, hb3⟩
    go_wp2
    go_ret
    exact ⟨rfl, hb3⟩
  · skip
    have qxn : (xn : Int) ≤ 200 := by omega
    have qsn : (sn : Int) ≤ 200 := by omega
    have qim : (im : Int) ≤ 100 := by omega
    have C1 := hid (fun W (h : Below w.heap.size w W) => eval_any xa sa ia xn xc sn sc im ic xs sl ins W hxn.out.symm hsn.out.symm him.out.symm (HX.out.kept h) (HS.out.kept h) (HI.out.kept h) (by omega) (by omega) (by omega))
    have C2 := hid (fun W (h : Below w.heap.size w W) => reval_any xa sa ia xn xc sn sc im ic xs sl ins W hxn.out.symm hsn.out.symm him.out.symm (HX.out.kept h) (HS.out.kept h) (HI.out.kept h) (by omega) (by omega) (by omega))
    have G1 := hid (fun W (h : Below w.heap.size w W) => good_any nn xa xn xc xs W hxn.out.symm (HX.out.kept h) (by omega) nn0 nn1)
    have G2 := hid (fun W (h : Below w.heap.size w W) => rgood_any nn xa xn xc xs W hxn.out.symm (HX.out.kept h) (by omega) nn0 nn1)
    have G3 := hid (fun W (h : Below w.heap.size w W) => good_any (sn : Int) xa xn xc xs W hxn.out.symm (HX.out.kept h) (by omega) (by omega) (by omega))
    have G4 := hid (fun W (h : Below w.heap.size w W) => rgood_any (sn : Int) xa xn xc xs W hxn.out.symm (HX.out.kept h) (by omega) (by omega) (by omega))
    have UA := hid (fun W (h : Below w.heap.size w W) => uses_any xa xn xc xs W hxn.out.symm (HX.out.kept h) (by omega))
    generalize evN sl ins xs = ea at *
    generalize evT sl ins xs = eb at *
    generalize goodB nn xs = ga at *
    generalize goodB (sn : Int) xs = gb at *
    have z1 : (ea != ea) = false := by simp
    have z2 : (eb != eb) = false := by simp
    have z3 : (ga != ga) = false := by simp
    have z4 : (gb != gb) = false := by simp
    clear h1 h2 h3 HS HI nn0 nn1
    go_enter Try.func3, Try.ntmps3
    go_wp2_with fail
    refine (alive_any _).mono ?_
    rintro r w3 ⟨rfl, hb3⟩
    replace hb3 := hid hb3
    go_wp2_with fail
    refine Calls.mono (C1.out w3 hb3.out) ?_
    rintro r w4 ⟨rfl, hb4⟩
    have B4 := hid (hb3.out.trans (hb4.mono hb3.out.size))
    clear hb4 hb3 C1
    go_wp2_with fail
    refine Calls.mono (C2.out w4 B4.out) ?_
    rintro r w5 ⟨rfl, hb5⟩
    have B5 := hid (B4.out.trans (hb5.mono B4.out.size))
    clear hb5 B4 C2
    go_wp2_with fail
    refine Calls.mono (G1.out w5 B5.out) ?_
    rintro r w6 ⟨rfl, hb6⟩
    have B6 := hid (B5.out.trans (hb6.mono B5.out.size))
    clear hb6 B5 G1
    go_wp2_with fail
    refine Calls.mono (G2.out w6 B6.out) ?_
    rintro r w7 ⟨rfl, hb7⟩
    have B7 := hid (B6.out.trans (hb7.mono B6.out.size))
    clear hb7 B6 G2
    go_wp2_with fail
    refine Calls.mono (G3.out w7 B7.out) ?_
    rintro r w8 ⟨rfl, hb8⟩
    have B8 := hid (B7.out.trans (hb8.mono B7.out.size))
    clear hb8 B7 G3
    go_wp2_with fail
    refine Calls.mono (G4.out w8 B8.out) ?_
    rintro r w9 ⟨rfl, hb9⟩
    have B9 := hid (B8.out.trans (hb9.mono B8.out.size))
    clear hb9 B8 G4
    go_wp2_with fail
    refine Calls.mono (UA.out w9 B9.out) ?_
    rintro r w10 ⟨up, um, uc, rfl, hum, NU, hb10⟩
    have B10 := hid (B9.out.trans (hb10.mono B9.out.size))
    have NA := hid NU.at
    have hum2 := hid hum
    have hu : um ≤ 200 := by rw [hum]; have := usesL_len xs; rw [hxn.out] at this; omega
    clear hb10 B9 UA NU hum z1 z2 z3 z4
    go_wp2_with fail
    go_loopw [14, 78] (fun t14 t wr => ∃ (j k : Nat), t = .int .i64 j ∧ j ≤ xn ∧ t14 = .int .i64 k ∧ k ≤ um ∧ Hid ((usesL xs).drop k = usesL (xs.drop j)) ∧ Hid (Below w10.heap.size w10 wr)) (fun _ t _ => xn - (intOf t).toNat)
    case atStart => exact ⟨0, 0, rfl, by omega, rfl, by omega, rfl, Below.refl _ _⟩
    case round =>
      obtain ⟨j, k, rfl, hj, rfl, hk, E, B⟩ := hrel
      have BW := hid (B10.out.trans (B.out.mono B10.out.size))
      by_cases hjn : j < xn
      · obtain ⟨b, off, rfl, hb, ⟨c0, c1, c2⟩, ok⟩ := HX.out j (by rw [hxn.out]; exact hjn)
        rw [← BW.out.cell hb] at c0 c1 c2
        have D := hid (drop_here Itm.blank xs j (by rw [hxn.out]; exact hjn))
        rw [D.out] at E
        generalize xs.getD j Itm.blank = x at *
        have B2 := hid (B.out.alloc B.out.size (.cells #[.int .i64 x.op, .int .i64 x.bin, .int .u64 x.n] 36))
        clear D HX ok BW
        cases ho : (x.op == 2)
        · rw [uses_no x _ ho] at E
          clear B
          go_wp2
          go_roundw
          case rel => exact ⟨j + 1, k, by go_num, by omega, rfl, by omega, E, B2⟩
          case measure => simp [intOf]; omega
        · rw [uses_yes x _ ho] at E
          obtain ⟨g1, g2, g3⟩ := drop_cons E.out
          rw [← hum2.out] at g1
          obtain ⟨ub, uoff, rfl, hub, d0, _⟩ := NA.out k (by rw [← hum2.out]; exact g1)
          rw [g2] at d0
          replace g2 := hid g2
          replace g3 := hid g3
          have hB1 := (Below.refl wr.heap.size wr).alloc (Nat.le_refl _) (.cells #[.int .i64 x.op, .int .i64 x.bin, .int .u64 x.n] 36)
          have hubr : ub < wr.heap.size := Nat.lt_of_lt_of_le hub B.out.size
          rw [← B.out.cell (p := ⟨ub, uoff + k, none⟩) hub, ← hB1.cell (p := ⟨ub, uoff + k, none⟩) hubr] at d0
          have z1 : (wrap64 x.n != wrap64 x.n) = false := by simp
          have z2 : (k : Int) < (um : Int) := by omega
          clear E B NA hB1
          go_wp2_with fail
          go_quiet (fail)
          go_wp2
          · rename_i h
            rcases h with h | h
            · omega
            · exfalso
              have e : IntKind.i64.wrap x.n = wrap64 x.n := by rw [IntKind.wrap_i64]; unfold wrap64; rfl
              rw [e] at h
              simp at h
          · go_roundw
            case rel => exact ⟨j + 1, k + 1, by go_num, by omega, by go_num, by omega, g3, hid (below_drewN B2.out _)⟩
            case measure => simp [intOf]; omega
      · have e : k = um := by
          have := E.out
          have d : xs.drop j = [] := List.drop_of_length_le (by rw [hxn.out]; omega)
          rw [d] at this
          have h2 := congrArg List.length this
          rw [List.length_drop, ← hum2.out] at h2
          simp [usesL] at h2
          omega
        have z : ((k : Int) == (um : Int)) = true := by simp [e]
        clear E NA HX B e
        go_wp2
        go_ret
        exact ⟨rfl, BW.out⟩

set_option maxRecDepth 100000 in
theorem lifted (os : Os) (started : os.Started) (H : Type) (enc : TypeId × Value → H) :
    ReturnsInHanded {} Try.checked os 3 .any (Rows.calcIsSpec.pre6 enc Try.prog Try.f3 Rows.calcIsRow.domain false) (Rows.calcIsSpec.post enc Try.prog Try.f3 false true false false) := by
  refine returnsInHanded_of_change (C := Try.checked) own started (by kernel_rfl) Try.func3
    (ChangeSpec.witness6 (enc := enc) (C := Try.checked) false ⟨#[], #[.slice none 0 0, .slice none 0 0, .slice none 0 0, .int .i64 0], []⟩ 8 (by kernel_rfl) (by kernel_rfl) (by kernel_rfl) (by kernel_rfl)) ?_
  intro W base args ds gs before hval0 hW hcnd _
  have hval : ∀ (j : Nat) t v, Try.f3.params[j]? = some t → args[j]? = some v → Value.okWide Try.prog W .any base t v := hval0
  have hW' := hW
  obtain ⟨p, q, hA0, hV, rfl, hfz, hnd⟩ := hW
  have hA : DataW.TrodAll enc Try.prog W 0 (fun _ => true) true Try.f3.params.toList args.toList ds p := hA0
  rw [Try.params3] at hA hval
  obtain ⟨v0, vs0, d0, ds0, p0, q0, hargs, rfl, rfl, h0, r0⟩ := trodAll_cons hA
  obtain ⟨v1, vs1, d1, ds1, p1, q1, rfl, rfl, rfl, h1, r1⟩ := trodAll_cons r0
  obtain ⟨v2, vs2, d2, ds2, p2, q2, rfl, rfl, rfl, h2, r2⟩ := trodAll_cons r1
  obtain ⟨v3, vs3, d3, ds3, p3, q3, rfl, rfl, rfl, h3, r3⟩ := trodAll_cons r2
  obtain ⟨rfl, rfl, rfl⟩ := trodAll_nil r3
  obtain rfl : args = #[v0, v1, v2, v3] := by cases args; simp_all
  obtain ⟨rfl, rfl⟩ := trodVars_none hV
  have k0 := h0
  have lt0 : ∀ x ∈ p0, x.block < W.heap.size := by obtain ⟨m, hm⟩ := k0; exact DataW.trod_lt m _ _ _ hm
  obtain ⟨x0, w0⟩ := open22 (hval 0 22 v0 rfl rfl) h0
  have k1 := h1
  have lt1 : ∀ x ∈ p1, x.block < W.heap.size := by obtain ⟨m, hm⟩ := k1; exact DataW.trod_lt m _ _ _ hm
  obtain ⟨x1, w1⟩ := open23 (hval 1 23 v1 rfl rfl) h1
  have k2 := h2
  have lt2 : ∀ x ∈ p2, x.block < W.heap.size := by obtain ⟨m, hm⟩ := k2; exact DataW.trod_lt m _ _ _ hm
  obtain ⟨x2, w2⟩ := open24 (hval 2 24 v2 rfl rfl) h2
  obtain ⟨a3, rfl, rfl, rfl, w3⟩ := open_int Try.underlying3 (hval 3 3 v3 rfl rfl) h3
  clear hA0 hval0
  refine (walk v0 x0 v1 x1 v2 x2 a3 W w0 w1 w2 w3).mono fun e W' ⟨he, bel⟩ => ?_
  subst he
  exact ⟨_, rfl, _, _, _, [], _, [], hW', trodAll_mk1 (shut_bool Try.underlying4 _), (trodAll_cons_mk (Below.trod laidOut (by kernel_rfl) (of_decide_eq_true (by kernel_rfl)) k0 bel lt0) (trodAll_cons_mk (Below.trod laidOut (by kernel_rfl) (of_decide_eq_true (by kernel_rfl)) k1 bel lt1) (trodAll_cons_mk (Below.trod laidOut (by kernel_rfl) (of_decide_eq_true (by kernel_rfl)) k2 bel lt2) (trodAll_cons_mk (shut_int Try.underlying3 w3) trodAll_mk0)))), rfl, bel.frame _, fun h => by cases h⟩

theorem over : Rows.calcIsRow.holds Try.pinned (OpenSpec.ofChange Rows.calcIsSpec) :=
  OpenClaim.holds_of_wide 3 Try.f3 rfl rfl rfl rfl rfl rfl rfl ⟨rfl, rfl, rfl, rfl, rfl⟩ rfl rfl rfl rfl rfl (by kernel_rfl) Try.func3 (by kernel_rfl)
    (of_decide_eq_true (by kernel_rfl)) (by unfold Func.isWrapper; first | (rw [if_pos (by decide +kernel)]; kernel_rfl) | (rw [if_neg (by decide +kernel)]; exact ⟨rfl, rfl⟩))
    (fun os started H enc _ => lifted os started H enc)

theorem proved : Rows.CalcIsSaid :=
  over
end Go.Proofs.Ytefcpidegnddiaa.calcIs
