/- The law padlocklaw08.CalcHangs answers true at every input: an expression's value hangs on the slots that it names alone. No conditions. -/
import Derived.Test.YtefcpidegnddiaaRows
import Derived.Test.YtefcpidegnddiaaRGood
import Derived.Test.YtefcpidegnddiaaSets
import Derived.WalkKit
import Derived.ProofKit
import Derived.OpenShut
import Derived.ShutString
import Derived.ChangeOld
import Derived.Below
import Derived.Deep.QuietTactic
import Derived.BigQuiet
import Derived.Deep.CutBlock
import Derived.Deep.CutRange
import Derived.Deep.DeepCutAuto
namespace Go.Proofs.Ytefcpidegnddiaa.calcHangs
open Go.ChangeShapes Go.WideShapes Go.ChangeAt Go.RowKit
open Go.ChangeMaps (open_string shut_string)
set_option linter.unusedVariables false

theorem own : ownKnob Try.prog.godebug = none := by kernel_rfl
theorem laidOut : laidOutB Try.prog = true := by kernel_rfl

theorem run_app00 (w : World) (g : Nat) (oa : Option Addr) (oc : Nat) (ty : TypeId) : (Builtin.append_ #[23, 23] ty #[.slice (some ⟨g, 0, none⟩) 0 0, .slice oa 0 oc]).run Try.prog w = .ok (.slice (some ⟨g, 0, none⟩) 0 0) w := by
  obtain ⟨i, hi, z0, z1, z2⟩ := info_parts info26
  cases oa <;> simp [Builtin.append_, run_underlying Try.underlying23, sizeOf, typeInfo, hi, Builtin.lenOf, Builtin.firstCells, loadCells, loadCellsFrom, storeCells]

theorem wl_app00 {ops : Array Oper} {rest : List Oper} {o : Oper} {a : Act} {w : World} {Q : Exit → Act → World → Prop} (hgd : o.guard = none) (s x : Operand) (ho : o.op = .call { callee := .builtin .append, args := #[s, x], argTypes := #[23, 23] })
    (g : Nat) (hs : a.eval s = .slice (some ⟨g, 0, none⟩) 0 0) (oa : Option Addr) (oc : Nat) (hx : a.eval x = .slice oa 0 oc)
    (h : wpList Try.prog ops Q rest (a.put o.dst (.slice (some ⟨g, 0, none⟩) 0 0)) w) : wpList Try.prog ops Q (o :: rest) a w := by
  refine wpList_plain hgd fun K hK => ?_
  unfold Oper.wp execOp
  simp only [ho, resolve, invoke, builtin, Sem.run_bind, Sem.run_pure, Result.andThen_ok, List.map_toArray, List.map_cons, List.map_nil, hs, hx, run_app00]
  exact hK _ _ h

set_option maxRecDepth 100000 in
set_option maxHeartbeats 1000000 in
theorem walk (v0 : Value) (xs : List Itm) (v1 : Value) (sl : List Int) (v2 : Value) (os : List Int) (v3 : Value) (ins : List Int) (w : World) (w0 : IsItems w v0 xs) (w1 : IsNums .u64 w v1 sl) (w2 : IsNums .u64 w v2 os) (w3 : IsNums .i64 w v3 ins) :
    Calls Try.prog 4 #[v0, v1, v2, v3] w fun e w' => e = .returned (.bool true) ∧ Below w.heap.size w w' := by
  obtain ⟨xa, xc, rfl, hX⟩ := w0
  obtain ⟨sa, sc, rfl, hS⟩ := w1
  obtain ⟨oa, oc, rfl, hO⟩ := w2
  obtain ⟨ia, ic, rfl, hI⟩ := w3
  have HX := hid hX
  have HS := hid hS
  have HO := hid hO
  have HI := hid hI
  clear hX hS hO hI
  generalize hxn : xs.length = xn
  generalize hsn : sl.length = sn
  generalize hon : os.length = on
  generalize him : ins.length = im
  replace hxn := hid hxn
  replace hsn := hid hsn
  replace hon := hid hon
  replace him := hid him
  by_cases h1 : 64 < xn
  · skip
    have qxn : (64 : Int) < (xn : Int) := by omega
    clear HX HS HO HI
    go_enter Try.func4, Try.ntmps4
    go_wp2_with fail
    refine (alive_any _).mono ?_
    rintro r w3 ⟨rfl, hb3⟩
    go_wp2
    go_ret
    exact ⟨rfl, hb3⟩
  by_cases h2 : 100 < sn
  · skip
    have qxn : (xn : Int) ≤ 64 := by omega
    have qsn : (100 : Int) < (sn : Int) := by omega
    clear HX HS HO HI
    go_enter Try.func4, Try.ntmps4
    go_wp2_with fail
    refine (alive_any _).mono ?_
    rintro r w3 ⟨rfl, hb3⟩
    go_wp2
    go_ret
    exact ⟨rfl, hb3⟩
  by_cases h3 : ¬ on = sn
  · skip
    have qxn : (xn : Int) ≤ 64 := by omega
    have qsn : (sn : Int) ≤ 100 := by omega
    have q3 : ((on : Int) != (sn : Int)) = true := by simp; omega
    clear HX HS HO HI
    go_enter Try.func4, Try.ntmps4
    go_wp2_with fail
    refine (alive_any _).mono ?_
    rintro r w3 ⟨rfl, hb3⟩
    go_wp2
    go_ret
    exact ⟨rfl, hb3⟩
  replace h3 : on = sn := by omega
  subst h3
  by_cases h4 : 100 < im
  · skip
    have qxn : (xn : Int) ≤ 64 := by omega
    have qon : (on : Int) ≤ 100 := by omega
    have qim : (100 : Int) < (im : Int) := by omega
    clear HX HS HO HI
    go_enter Try.func4, Try.ntmps4
    go_wp2_with fail
    refine (alive_any _).mono ?_
    rintro r w3 ⟨rfl, hb3⟩
    go_wp2
    go_ret
    exact ⟨rfl, hb3⟩
  cases gx : goodB (on : Int) xs
  · skip
    replace gx := hid gx
    have GX := hid (fun W (h : Below w.heap.size w W) => rgood_any (on : Int) xa xn xc xs W hxn.out.symm (HX.out.kept h) (by omega) (by omega) (by omega))
    simp only [gx.out] at GX
    have qxn : (xn : Int) ≤ 64 := by omega
    have qon : (on : Int) ≤ 100 := by omega
    have qim : (im : Int) ≤ 100 := by omega
    clear HX HS HO HI
    go_enter Try.func4, Try.ntmps4
    go_wp2_with fail
    refine (alive_any _).mono ?_
    rintro r w3 ⟨rfl, hb3⟩
    have GX3 := hid (GX.out w3 hb3)
    clear GX
    go_wp2_with (first | (go_at_call 12; refine Calls.mono GX3.out ?_; rintro r w4 ⟨rfl, hb4⟩; have hb5 := hb3.trans (hb4.mono hb3.size); clear GX3 hb4))
    go_ret
    exact ⟨rfl, hb5⟩
  by_cases hz : 0 < on
  · skip
    obtain ⟨ob, ooff, rfl, _⟩ := HO.out 0 (by rw [hon.out]; exact hz)
    replace gx := hid gx
    have gx2 : Hid (goodB (sl.length : Int) xs = true) := hid (by rw [hsn.out]; exact gx.out)
    have GX := hid (fun W (h : Below w.heap.size w W) => rgood_any (on : Int) xa xn xc xs W hxn.out.symm (HX.out.kept h) (by omega) (by omega) (by omega))
    simp only [gx.out] at GX
    have qxn : (xn : Int) ≤ 64 := by omega
    have qon : (on : Int) ≤ 100 := by omega
    have qim : (im : Int) ≤ 100 := by omega
    have xok := hid HX.out.allOk
    clear h1 h2 h4
    go_enter Try.func4, Try.ntmps4
    go_wp2_with fail
    refine (alive_any _).mono ?_
    rintro r w3 ⟨rfl, hb3⟩
    have GX3 := hid (GX.out w3 hb3)
    clear GX
    replace hb3 := hid hb3
    go_wp2_with fail
    refine Calls.mono GX3.out ?_
    rintro r w4 ⟨rfl, hb4⟩
    have B4 := hid (hb3.out.trans (hb4.mono hb3.out.size))
    clear GX3 hb4 hb3
    have B6 := hid (B4.out.alloc B4.out.size (.cells #[] 26))
    have R6 := hid (NRow.new0 .u64 26 w.heap.size w4 B4.out.size)
    go_wp2_with (first
      | (at_builtin; refine wl_appN .u64 23 26 Try.underlying23 info26 rfl _ _ rfl w.heap.size (.slice (some ⟨w4.heap.size, 0, none⟩) 0 0) rfl 0 [] R6.out ob ooff on oc rfl os hon.out.symm (HO.out.kept B6.out) B6.out.size (by omega) ?_; intro p1 c1 w7 n7 hn7 R7 Bx G7; have B7 := hid (B6.out.trans Bx.out); clear Bx G7 B6 R6))
    obtain ⟨g, rfl, hg, S7⟩ := R7.out.stk (by rw [hn7.out]; omega)
    replace S7 := hid S7
    have q7 : Hid (n7 = on) := hid (by rw [hn7.out]; omega)
    have q7' : n7 ≤ 100 := by rw [q7.out]; omega
    have U7 := hid HO.out.allU
    clear R7 HO hn7
    refine Calls.mono (uses_any xa xn xc xs w7 hxn.out.symm (HX.out.kept B7.out) (by omega)) ?_
    rintro r w8 ⟨up, um, uc, rfl, hum, NU, hb8⟩
    have B8 := hid (B7.out.trans (hb8.mono B7.out.size))
    have S8 := hid (S7.out.kept hb8)
    have g7 : Hid (g < w7.heap.size) := hid S7.out.lt
    have hum2 := hid hum
    have hu64 : um ≤ 64 := by rw [hum]; have := usesL_len xs; rw [hxn.out] at this; omega
    have A8 : Hid (∀ i, i < um → ∃ ub, up = some ⟨ub, 0, none⟩ ∧ ub ≠ g ∧ w8.cell? ⟨ub, i, none⟩ = some (.int .i64 ((usesL xs).getD i 0))) := hid (by
      intro i hi
      obtain ⟨b, off, e, hlt, c, _⟩ := NU.at i (by rw [← hum]; exact hi)
      have hb := NU.base b
      rcases NU.2.1.2 with ⟨_, e2⟩ | ⟨g2, cap2, cur2, e2, hb2, _⟩
      · omega
      · simp only [Value.slice.injEq, true_and] at e2
        rw [e2.1] at e
        simp only [Option.some.injEq, Addr.mk.injEq, and_true] at e
        obtain ⟨rfl, rfl⟩ := e
        refine ⟨g2, e2.1, ?_, ?_⟩
        · have := g7.out; omega
        · rw [Nat.zero_add] at c; exact c)
    clear NU hum hb8 S7 B7 g7
    have UI := hid (uses_in on (by omega) xs xok.out gx.out)
    go_wp2_with fail
    go_loopw [51] (fun t wr => ∃ (i : Nat) (M : List Int), t = .int .i64 i ∧ i ≤ um ∧ Hid (M.length = on) ∧ Hid (AllU M) ∧ Hid (Stk wr g c1 M) ∧ Hid (Set_ sl M (usesL xs) i) ∧ Hid (∀ i, i < um → ∃ ub, up = some ⟨ub, 0, none⟩ ∧ ub ≠ g ∧ wr.cell? ⟨ub, i, none⟩ = some (.int .i64 ((usesL xs).getD i 0))) ∧ Hid (Below w.heap.size w wr)) (fun t _ => um - (intOf t).toNat)
    case atStart => exact ⟨0, os, rfl, by omega, hon, U7, S8, fun j hj => by omega, A8, B8⟩
    case round =>
      obtain ⟨i, M, rfl, hi, ML, MU, S, E, A, B⟩ := hrel
      clear S8 A8 B8
      by_cases hin : i < um
      · obtain ⟨ub, rfl, hne, c⟩ := A.out i hin
        have hmem : (usesL xs).getD i 0 ∈ usesL xs := getD_mem _ _ _ (by rw [← hum2.out]; exact hin)
        obtain ⟨k0, k1⟩ := UI.out _ hmem
        obtain ⟨k, hk⟩ := Int.eq_ofNat_of_zero_le k0
        have HK := hid hk
        rw [hk] at c
        have kon : k < on := by rw [hk] at k1; omega
        obtain ⟨sb, soff, rfl, sbl, cs, swf⟩ := HS.out k (by rw [hsn.out]; exact kon)
        rw [← B.out.cell sbl] at cs
        have hv := hid (bounds_u64 swf)
        generalize hsv : sl.getD k 0 = v at *
        replace hsv := hid hsv
        have cm := S.out.cell k (M.getD k 0) (by have : k < M.length := by rw [ML.out]; exact kon
                                                 simp [List.getD, this])
        have fm := S.out.frozen k
        have r0 : (k : Int) < (on : Int) := by omega
        have r1 : (k : Int) < (n7 : Int) := by rw [q7.out]; exact r0
        have S2 := hid (S.out.set k v)
        have E2 : Hid (Set_ sl (M.set k v) (usesL xs) (i + 1)) := hid (by rw [← hsv.out]; exact set_next sl M _ i k HK.out (by rw [ML.out]; exact kon) E.out)
        have ML2 : Hid ((M.set k v).length = on) := hid (by rw [List.length_set]; exact ML.out)
        have MU2 : Hid (AllU (M.set k v)) := hid (by
          intro y hy
          rcases List.mem_or_eq_of_mem_set hy with h | h
          · exact MU.out y h
          · rw [h]; exact hv.out)
        have B2 := hid (B.out.setCell (p := ⟨g, k, none⟩) hg (.int .u64 v))
        have A2 : Hid (∀ i, i < um → ∃ ub', some (⟨ub, 0, none⟩ : Addr) = some ⟨ub', 0, none⟩ ∧ ub' ≠ g ∧ (wr.setCell ⟨g, k, none⟩ (.int .u64 v)).cell? ⟨ub', i, none⟩ = some (.int .i64 ((usesL xs).getD i 0))) := hid (by
          intro j hj
          obtain ⟨b, e, h1, h2⟩ := A.out j hj
          refine ⟨b, e, h1, ?_⟩
          rw [World.cell?_of_block (w := wr) (a := ⟨b, j, none⟩) (Below.heap_setCell wr ⟨g, k, none⟩ _ b h1)]
          exact h2)
        generalize M.getD k 0 = old at *
        clear HX HS HI hmem k0 k1 hk kon swf sbl hv hsv S E ML MU A B UI U7 HK
        go_wp2
        go_roundw
        case rel => exact ⟨i + 1, M.set k v, by go_num, by omega, ML2, MU2, S2, E2, A2, B2⟩
        case measure => simp [intOf]; omega
      · have e : i = um := by omega
        subst e
        have AS := hid (ev_same sl M ins xs (by rw [ML.out]; exact hsn.out.symm) (set_all on (by omega) sl M xs xok.out gx.out (by rw [← hum2.out]; exact E.out)))
        have C1 := hid (eval_any xa sa ia xn xc on sc im ic xs sl ins wr hxn.out.symm hsn.out.symm him.out.symm (HX.out.kept B.out) (HS.out.kept B.out) (HI.out.kept B.out) (by omega) (by omega) (by omega))
        have C2 := hid (fun W (h : Below wr.heap.size wr W) => eval_any xa (some ⟨g, 0, none⟩) ia xn xc n7 c1 im ic xs M ins W hxn.out.symm (by rw [q7.out]; exact ML.out.symm) him.out.symm ((HX.out.kept B.out).kept h) ((S.out.nums MU.out).kept h) ((HI.out.kept B.out).kept h) (by omega) (by omega) (by omega))
        simp only [AS.out.1, AS.out.2] at C2
        generalize evN sl ins xs = a at *
        generalize evT sl ins xs = b at *
        clear HX HS HI S E ML MU A UI U7 AS
        have z1 : (a == a) = true := by simp
        have z2 : (b == b) = true := by simp
        go_wp2_with fail
        refine Calls.mono C1.out ?_
        rintro r w11 ⟨rfl, hb11⟩
        replace hb11 := hid hb11
        clear C1
        go_wp2_with fail
        refine Calls.mono (C2.out w11 hb11.out) ?_
        rintro r w12 ⟨rfl, hb12⟩
        have D12 := hid (hb11.out.trans (hb12.mono hb11.out.size))
        have B12 := hid (B.out.trans (D12.out.mono B.out.size))
        clear C2 hb12 hb11 D12 B
        go_wp2
        go_ret
        exact ⟨rfl, B12.out⟩
  · skip
    have e0 : on = 0 := by omega
    subst e0
    have eo : os = [] := List.length_eq_zero_iff.1 hon.out
    subst eo
    have es : sl = [] := List.length_eq_zero_iff.1 hsn.out
    subst es
    replace gx := hid (show goodB (0 : Int) xs = true from gx)
    have GX := hid (fun W (h : Below w.heap.size w W) => rgood_any (0 : Int) xa xn xc xs W hxn.out.symm (HX.out.kept h) (by omega) (by omega) (by omega))
    simp only [gx.out] at GX
    have qxn : (xn : Int) ≤ 64 := by omega
    have qim : (im : Int) ≤ 100 := by omega
    have xok := hid HX.out.allOk
    have un : usesL xs = [] := by
      cases e : usesL xs with
      | nil => rfl
      | cons k r =>
        have := uses_in 0 (by omega) xs xok.out gx.out k (by rw [e]; simp)
        omega
    replace un := hid un
    clear h1 h2 h4 HS HO hz
    go_enter Try.func4, Try.ntmps4
    go_wp2_with fail
    refine (alive_any _).mono ?_
    rintro r w3 ⟨rfl, hb3⟩
    have GX3 := hid (GX.out w3 hb3)
    clear GX
    replace hb3 := hid hb3
    go_wp2_with fail
    refine Calls.mono GX3.out ?_
    rintro r w4 ⟨rfl, hb4⟩
    have B4 := hid (hb3.out.trans (hb4.mono hb3.out.size))
    clear GX3 hb4 hb3
    have B6 := hid (B4.out.alloc B4.out.size (.cells #[] 26))
    have HU := hid (uses_any xa xn xc xs (w4.alloc (.cells #[] 26)) hxn.out.symm (HX.out.kept B6.out) (by omega))
    go_wp2_with (first
      | (at_builtin; refine wl_app00 rfl _ _ rfl w4.heap.size rfl oa oc rfl ?_))
    refine Calls.mono HU.out ?_
    rintro r w8 ⟨up, um, uc, rfl, hum, NU, hb8⟩
    have B8 := hid (B6.out.trans (hb8.mono B6.out.size))
    rw [un.out] at hum
    have hum2 : um = 0 := hum
    subst hum2
    have C1 := hid (eval_any xa sa ia xn xc 0 sc im ic xs [] ins w8 hxn.out.symm rfl him.out.symm (HX.out.kept B8.out) (NumsAt.nil _ _ _) (HI.out.kept B8.out) (by omega) (by omega) (by omega))
    have C2 := hid (fun W (h : Below w8.heap.size w8 W) => eval_any xa (some ⟨w4.heap.size, 0, none⟩) ia xn xc 0 0 im ic xs [] ins W hxn.out.symm rfl him.out.symm ((HX.out.kept B8.out).kept h) (NumsAt.nil _ _ _) ((HI.out.kept B8.out).kept h) (by omega) (by omega) (by omega))
    generalize evN [] ins xs = a at *
    generalize evT [] ins xs = b at *
    clear HX HI HU NU hb8 B4 B6 hum
    have z1 : (a == a) = true := by simp
    have z2 : (b == b) = true := by simp
    go_wp2_with fail
    go_loopw [51] (fun t wr => t = .int .i64 0 ∧ wr = w8) (fun t _ => 0)
    case atStart => exact ⟨rfl, rfl⟩
    case round =>
      obtain ⟨rfl, rfl⟩ := hrel
      go_wp2_with fail
      refine Calls.mono C1.out ?_
      rintro r w11 ⟨rfl, hb11⟩
      replace hb11 := hid hb11
      clear C1
      go_wp2_with fail
      refine Calls.mono (C2.out w11 hb11.out) ?_
      rintro r w12 ⟨rfl, hb12⟩
      have D12 := hid (hb11.out.trans (hb12.mono hb11.out.size))
      have B12 := hid (B8.out.trans (D12.out.mono B8.out.size))
      clear C2 hb12 hb11 D12
      go_wp2
      go_ret
      exact ⟨rfl, B12.out⟩

set_option maxRecDepth 100000 in
theorem lifted (os : Os) (started : os.Started) (H : Type) (enc : TypeId × Value → H) :
    ReturnsInHanded {} Try.checked os 4 .any (Rows.calcHangsSpec.pre6 enc Try.prog Try.f4 Rows.calcHangsRow.domain false) (Rows.calcHangsSpec.post enc Try.prog Try.f4 false true false false) := by
  refine returnsInHanded_of_change (C := Try.checked) own started (by kernel_rfl) Try.func4
    (ChangeSpec.witness6 (enc := enc) (C := Try.checked) false ⟨#[], #[.slice none 0 0, .slice none 0 0, .slice none 0 0, .slice none 0 0], []⟩ 8 (by kernel_rfl) (by kernel_rfl) (by kernel_rfl) (by kernel_rfl)) ?_
  intro W base args ds gs before hval0 hW hcnd _
  have hval : ∀ (j : Nat) t v, Try.f4.params[j]? = some t → args[j]? = some v → Value.okWide Try.prog W .any base t v := hval0
  have hW' := hW
  obtain ⟨p, q, hA0, hV, rfl, hfz, hnd⟩ := hW
  have hA : DataW.TrodAll enc Try.prog W 0 (fun _ => true) true Try.f4.params.toList args.toList ds p := hA0
  rw [Try.params4] at hA hval
  obtain ⟨v0, vs0, d0, ds0, p0, q0, hargs, rfl, rfl, h0, r0⟩ := trodAll_cons hA
  obtain ⟨v1, vs1, d1, ds1, p1, q1, rfl, rfl, rfl, h1, r1⟩ := trodAll_cons r0
  obtain ⟨v2, vs2, d2, ds2, p2, q2, rfl, rfl, rfl, h2, r2⟩ := trodAll_cons r1
  obtain ⟨v3, vs3, d3, ds3, p3, q3, rfl, rfl, rfl, h3, r3⟩ := trodAll_cons r2
  obtain ⟨rfl, rfl, rfl⟩ := trodAll_nil r3
  obtain rfl : args = #[v0, v1, v2, v3] := by cases args; simp_all
  obtain ⟨rfl, rfl⟩ := trodVars_none hV
  have k0 := h0
  have lt0 : ∀ x ∈ p0, x.block < W.heap.size := by obtain ⟨m, hm⟩ := k0; exact DataW.trod_lt m _ _ _ hm
  obtain ⟨x0, w0⟩ := open22 (hval 0 22 v0 rfl rfl) h0
  have k1 := h1
  have lt1 : ∀ x ∈ p1, x.block < W.heap.size := by obtain ⟨m, hm⟩ := k1; exact DataW.trod_lt m _ _ _ hm
  obtain ⟨x1, w1⟩ := open23 (hval 1 23 v1 rfl rfl) h1
  have k2 := h2
  have lt2 : ∀ x ∈ p2, x.block < W.heap.size := by obtain ⟨m, hm⟩ := k2; exact DataW.trod_lt m _ _ _ hm
  obtain ⟨x2, w2⟩ := open23 (hval 2 23 v2 rfl rfl) h2
  have k3 := h3
  have lt3 : ∀ x ∈ p3, x.block < W.heap.size := by obtain ⟨m, hm⟩ := k3; exact DataW.trod_lt m _ _ _ hm
  obtain ⟨x3, w3⟩ := open24 (hval 3 24 v3 rfl rfl) h3
  clear hA0 hval0
  refine (walk v0 x0 v1 x1 v2 x2 v3 x3 W w0 w1 w2 w3).mono fun e W' ⟨he, bel⟩ => ?_
  subst he
  exact ⟨_, rfl, _, _, _, [], _, [], hW', trodAll_mk1 (shut_bool Try.underlying4 _), (trodAll_cons_mk (Below.trod laidOut (by kernel_rfl) (of_decide_eq_true (by kernel_rfl)) k0 bel lt0) (trodAll_cons_mk (Below.trod laidOut (by kernel_rfl) (of_decide_eq_true (by kernel_rfl)) k1 bel lt1) (trodAll_cons_mk (Below.trod laidOut (by kernel_rfl) (of_decide_eq_true (by kernel_rfl)) k2 bel lt2) (trodAll_cons_mk (Below.trod laidOut (by kernel_rfl) (of_decide_eq_true (by kernel_rfl)) k3 bel lt3) trodAll_mk0)))), rfl, bel.frame _, fun h => by cases h⟩

theorem over : Rows.calcHangsRow.holds Try.pinned (OpenSpec.ofChange Rows.calcHangsSpec) :=
  OpenClaim.holds_of_wide 4 Try.f4 rfl rfl rfl rfl rfl rfl rfl ⟨rfl, rfl, rfl, rfl, rfl⟩ rfl rfl rfl rfl rfl (by kernel_rfl) Try.func4 (by kernel_rfl)
    (of_decide_eq_true (by kernel_rfl)) (by unfold Func.isWrapper; first | (rw [if_pos (by decide +kernel)]; kernel_rfl) | (rw [if_neg (by decide +kernel)]; exact ⟨rfl, rfl⟩))
    (fun os started H enc _ => lifted os started H enc)

theorem proved : Rows.CalcHangsSaid :=
  over
end Go.Proofs.Ytefcpidegnddiaa.calcHangs
