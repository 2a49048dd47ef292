/- The law padlocklaw08.CalcJoins answers true at every input: two expressions, one behind the other, and an item that takes both, are one. No conditions. -/
import Derived.Test.YtefcpidegnddiaaRows
import Derived.Test.YtefcpidegnddiaaRGood
import Derived.Test.YtefcpidegnddiaaUses
import Derived.WalkKit
import Derived.ProofKit
import Derived.OpenShut
import Derived.ShutString
import Derived.ChangeOld
import Derived.Below
import Derived.Deep.QuietTactic
import Derived.BigQuiet
import Derived.Deep.CutBlock
import Derived.Deep.CutRange
import Derived.Deep.DeepCutAuto
namespace Go.Proofs.Ytefcpidegnddiaa.calcJoins
open Go.ChangeShapes Go.WideShapes Go.ChangeAt Go.RowKit
open Go.ChangeMaps (open_string shut_string)
set_option linter.unusedVariables false

theorem own : ownKnob Try.prog.godebug = none := by kernel_rfl
theorem laidOut : laidOutB Try.prog = true := by kernel_rfl

theorem hgt_up (s : Int) (l : List Itm) (h k d : Nat) (e : hgt s l h = some k) : hgt s l (h + d) = some (k + d) := by
  induction l generalizing h with
  | nil => simp only [hgt, Option.some.injEq] at e ⊢; omega
  | cons x l ih =>
    obtain ⟨c1, c2, c3⟩ := hgt_can e
    rw [hgt_yes s x l (h + d) c1 (by omega)]
    have := ih _ c3
    rw [← this]; congr 1; omega

theorem run_up (sl ins : List Int) (s : Int) (l : List Itm) (st s0 : List Int) (k : Nat) (e : hgt s l st.length = some k) : runE sl ins l (s0 ++ st) = (runE sl ins l st).map (s0 ++ ·) := by
  induction l generalizing st with
  | nil => rfl
  | cons x l ih =>
    obtain ⟨c1, c2, c3⟩ := hgt_can e
    have e1 : (s0 ++ st).length - tk x.op = s0.length + (st.length - tk x.op) := by rw [List.length_append]; omega
    have eB : stB x (s0 ++ st) = stB x st := by
      unfold stB
      rw [e1, List.drop_append, List.drop_of_length_le (show s0.length ≤ s0.length + (st.length - tk x.op) by omega)]
      simp
    have eN : stN sl ins x (s0 ++ st) = s0 ++ stN sl ins x st := by
      unfold stN
      rw [e1, List.drop_append, List.take_append, List.drop_of_length_le (show s0.length ≤ s0.length + (st.length - tk x.op) by omega), List.take_of_length_le (show s0.length ≤ s0.length + (st.length - tk x.op) by omega)]
      simp
    rw [runE_cons, runE_cons, eB, eN]
    cases stB x st with
    | false => rfl
    | true =>
      exact ih (stN sl ins x st) (by rw [stN_len _ _ _ _ c2]; exact c3)

theorem good_run (sl ins : List Int) (l : List Itm) (h : goodB sl.length l = true) : (evT sl ins l = 1 ∧ runE sl ins l [] = none ∧ evN sl ins l = 0) ∨ (evT sl ins l = 0 ∧ runE sl ins l [] = some [evN sl ins l]) := by
  unfold evT evN
  rw [h]
  cases e : runE sl ins l [] with
  | none => left; exact ⟨rfl, rfl, rfl⟩
  | some st =>
    right
    have hl := runE_len sl ins sl.length l [] st 1 (good_hgt h).1 e
    match st, hl with
    | [v], _ => exact ⟨rfl, rfl⟩

def opB (bin : Int) : Itm := ⟨8, bin, 0⟩

theorem opB_can (s bin : Int) (h0 : 0 ≤ bin) (h8 : bin ≤ 8) : can s (opB bin) = true := by simp [can, opB, tk, canJ, h0, h8]

theorem joined_good (s : Int) (a b : List Itm) (bin : Int) (h0 : 0 ≤ bin) (h8 : bin ≤ 8) (ha : goodB s a = true) (hb : goodB s b = true) (la : a.length ≤ 31) (lb : b.length ≤ 31) : goodB s (a ++ b ++ [opB bin]) = true := by
  have e : hgt s (a ++ b ++ [opB bin]) 0 = some 1 := by
    rw [hgt_app, hgt_app, (good_hgt ha).1]
    show ((hgt s b 1).bind (hgt s [opB bin])) = some 1
    have := hgt_up s b 0 1 1 (good_hgt hb).1
    rw [this]
    show hgt s [opB bin] 2 = some 1
    rw [hgt_yes s _ _ _ (opB_can s bin h0 h8) (by simp [opB, tk])]
    rfl
  unfold goodB
  rw [e]
  simp
  omega

theorem joined_run (sl ins : List Int) (a b : List Itm) (bin : Int) (ha : goodB sl.length a = true) (hb : goodB sl.length b = true) :
    runE sl ins (a ++ b ++ [opB bin]) [] = (runE sl ins a []).bind fun s => (runE sl ins b []).bind fun t => runE sl ins [opB bin] (s ++ t) := by
  rw [runE_app, runE_app]
  cases e : runE sl ins a [] with
  | none => rfl
  | some s =>
    show (runE sl ins b s).bind _ = _
    have := run_up sl ins sl.length b [] s 1 (good_hgt hb).1
    rw [List.append_nil] at this
    rw [this]
    cases runE sl ins b [] <;> rfl

theorem joined_trap (sl ins : List Int) (a b : List Itm) (bin : Int) (h0 : 0 ≤ bin) (h8 : bin ≤ 8) (ha : goodB sl.length a = true) (hb : goodB sl.length b = true) (la : a.length ≤ 31) (lb : b.length ≤ 31) (h : runE sl ins a [] = none ∨ runE sl ins b [] = none) :
    evN sl ins (a ++ b ++ [opB bin]) = 0 ∧ evT sl ins (a ++ b ++ [opB bin]) = 1 := by
  have e : runE sl ins (a ++ b ++ [opB bin]) [] = none := by
    rw [joined_run sl ins a b bin ha hb]
    rcases h with h | h
    · rw [h]; rfl
    · rw [h]; cases runE sl ins a [] <;> rfl
  unfold evN evT
  rw [joined_good _ a b bin h0 h8 ha hb la lb, e]; exact ⟨rfl, rfl⟩

theorem joined_val (sl : List Int) (a b : List Itm) (bin x y : Int) (h0 : 0 ≤ bin) (h8 : bin ≤ 8) (ha : goodB sl.length a = true) (hb : goodB sl.length b = true) (la : a.length ≤ 31) (lb : b.length ≤ 31) (hx : runE sl [] a [] = some [x]) (hy : runE sl [] b [] = some [y]) :
    evN sl [] (a ++ b ++ [opB bin]) = evN [] [] [⟨1, 0, x⟩, ⟨1, 0, y⟩, opB bin] ∧ evT sl [] (a ++ b ++ [opB bin]) = evT [] [] [⟨1, 0, x⟩, ⟨1, 0, y⟩, opB bin] := by
  have e : runE sl [] (a ++ b ++ [opB bin]) [] = runE sl [] [opB bin] [x, y] := by
    rw [joined_run sl [] a b bin ha hb, hx, hy]; rfl
  have e2 : runE [] [] [⟨1, 0, x⟩, ⟨1, 0, y⟩, opB bin] [] = runE sl [] [opB bin] [x, y] := rfl
  have g2 : goodB (([] : List Int).length : Int) [⟨1, 0, x⟩, ⟨1, 0, y⟩, opB bin] = true := by
    have : hgt 0 [⟨1, 0, x⟩, ⟨1, 0, y⟩, opB bin] 0 = some 1 := by
      rw [hgt_yes 0 _ _ _ rfl (by simp [tk]), hgt_yes 0 _ _ _ rfl (by simp [tk])]
      show hgt 0 [opB bin] 2 = some 1
      rw [hgt_yes 0 _ _ _ (opB_can 0 bin h0 h8) (by simp [opB, tk])]
      rfl
    show goodB 0 _ = true
    unfold goodB
    rw [this]; rfl
  unfold evN evT
  rw [joined_good _ a b bin h0 h8 ha hb la lb, g2, e, e2]; exact ⟨rfl, rfl⟩

theorem runU (sl ins : List Int) (l : List Itm) (hs : AllU sl) (hl : AllOk l) (st st' : List Int) (h : AllU st) (e : runE sl ins l st = some st') : AllU st' := by
  induction l generalizing st with
  | nil => simp only [runE, Option.some.injEq] at e; rw [← e]; exact h
  | cons x l ih =>
    rw [runE_cons] at e
    split at e
    · exact ih (fun y hy => hl y (List.mem_cons_of_mem _ hy)) _ (u_stN sl ins hs x (hl x (by simp)) st h) e
    · cases e

theorem evU (sl ins : List Int) (l : List Itm) (hs : AllU sl) (hl : AllOk l) : U (evN sl ins l) := by
  unfold evN
  split
  · cases e : runE sl ins l [] with
    | none => exact ⟨by decide, by decide⟩
    | some st =>
      have := runU sl ins l hs hl [] st (fun _ h => by simp at h) e
      cases st with
      | nil => exact ⟨by decide, by decide⟩
      | cons v r => exact this v (by simp)
  · exact ⟨by decide, by decide⟩

theorem good_pos (s : Int) (l : List Itm) (h : goodB s l = true) : 0 < l.length := by
  cases l with
  | nil => simp [goodB, hgt] at h
  | cons x l => simp


set_option maxRecDepth 100000 in
set_option maxHeartbeats 1000000 in
theorem walk (v0 : Value) (xs : List Itm) (v1 : Value) (ys : List Itm) (v2 : Value) (sl : List Int) (bin : Int) (w : World) (w0 : IsItems w v0 xs) (w1 : IsItems w v1 ys) (w2 : IsNums .u64 w v2 sl) (wf3 : (Lit.int .i64 bin).wf = true) :
    Calls Try.prog 5 #[v0, v1, v2, .int .i64 bin] w fun e w' => e = .returned (.bool true) ∧ Below w.heap.size w w' := by
  obtain ⟨xa, xc, rfl, hX⟩ := w0
  obtain ⟨ya, yc, rfl, hY⟩ := w1
  obtain ⟨sa, sc, rfl, hS⟩ := w2
  have hbin := bounds_i64 wf3
  have HX := hid hX
  have HY := hid hY
  have HS := hid hS
  clear hX hY hS wf3
  generalize hxn : xs.length = xn
  generalize hyn : ys.length = yn
  generalize hsn : sl.length = sn
  replace hxn := hid hxn
  replace hyn := hid hyn
  replace hsn := hid hsn
  by_cases h1 : 31 < xn
  · skip
    have qxn : (31 : Int) < (xn : Int) := by omega
    clear HX HY HS
    go_enter Try.func5, Try.ntmps5
    go_wp2_with fail
    refine (alive_any _).mono ?_
    rintro r w3 ⟨rfl, hb3⟩
    go_wp2
    go_ret
    exact ⟨rfl, hb3⟩
  by_cases h2 : 31 < yn
  · skip
    have qxn : (xn : Int) ≤ 31 := by omega
    have qyn : (31 : Int) < (yn : Int) := by omega
    clear HX HY HS
    go_enter Try.func5, Try.ntmps5
    go_wp2_with fail
    refine (alive_any _).mono ?_
    rintro r w3 ⟨rfl, hb3⟩
    go_wp2
    go_ret
    exact ⟨rfl, hb3⟩
  by_cases h3 : 100 < sn
  · skip
    have qxn : (xn : Int) ≤ 31 := by omega
    have qyn : (yn : Int) ≤ 31 := by omega
    have qsn : (100 : Int) < (sn : Int) := by omega
    clear HX HY HS
    go_enter Try.func5, Try.ntmps5
    go_wp2_with fail
    refine (alive_any _).mono ?_
    rintro r w3 ⟨rfl, hb3⟩
    go_wp2
    go_ret
    exact ⟨rfl, hb3⟩
  cases gx : goodB (sn : Int) xs
  · skip
    replace gx := hid gx
    have GX := hid (fun W (h : Below w.heap.size w W) => rgood_any (sn : Int) xa xn xc xs W hxn.out.symm (HX.out.kept h) (by omega) (by omega) (by omega))
    simp only [gx.out] at GX
    have qxn : (xn : Int) ≤ 31 := by omega
    have qyn : (yn : Int) ≤ 31 := by omega
    have qsn : (sn : Int) ≤ 100 := by omega
    clear HX HY HS
    go_enter Try.func5, Try.ntmps5
    go_wp2_with fail
    refine (alive_any _).mono ?_
    rintro r w3 ⟨rfl, hb3⟩
    have GX3 := hid (GX.out w3 hb3)
    clear GX
    go_wp2_with (first | (go_at_call 12; refine Calls.mono GX3.out ?_; rintro r w4 ⟨rfl, hb4⟩; have hb5 := hb3.trans (hb4.mono hb3.size); clear GX3 hb4))
    go_ret
    exact ⟨rfl, hb5⟩
  cases gy : goodB (sn : Int) ys
  · skip
    replace gx := hid gx
    replace gy := hid gy
    have GX := hid (fun W (h : Below w.heap.size w W) => rgood_any (sn : Int) xa xn xc xs W hxn.out.symm (HX.out.kept h) (by omega) (by omega) (by omega))
    simp only [gx.out] at GX
    have GY := hid (fun W (h : Below w.heap.size w W) => rgood_any (sn : Int) ya yn yc ys W hyn.out.symm (HY.out.kept h) (by omega) (by omega) (by omega))
    simp only [gy.out] at GY
    have qxn : (xn : Int) ≤ 31 := by omega
    have qyn : (yn : Int) ≤ 31 := by omega
    have qsn : (sn : Int) ≤ 100 := by omega
    clear HX HY HS
    go_enter Try.func5, Try.ntmps5
    go_wp2_with fail
    refine (alive_any _).mono ?_
    rintro r w3 ⟨rfl, hb3⟩
    have GX3 := hid (GX.out w3 hb3)
    clear GX
    go_wp2_with (first | (go_at_call 12; refine Calls.mono GX3.out ?_; rintro r w4 ⟨rfl, hb4⟩; have hb5 := hb3.trans (hb4.mono hb3.size); clear GX3 hb4) | (go_at_call 12; refine Calls.mono (GY.out w4 hb5) ?_; rintro r w5 ⟨rfl, hb6⟩; have hb7 := hb5.trans (hb6.mono hb5.size); clear GY hb6))
    go_ret
    exact ⟨rfl, hb7⟩
  by_cases h4 : bin < 0
  · skip
    replace gx := hid gx
    replace gy := hid gy
    have GX := hid (fun W (h : Below w.heap.size w W) => rgood_any (sn : Int) xa xn xc xs W hxn.out.symm (HX.out.kept h) (by omega) (by omega) (by omega))
    simp only [gx.out] at GX
    have GY := hid (fun W (h : Below w.heap.size w W) => rgood_any (sn : Int) ya yn yc ys W hyn.out.symm (HY.out.kept h) (by omega) (by omega) (by omega))
    simp only [gy.out] at GY
    have qxn : (xn : Int) ≤ 31 := by omega
    have qyn : (yn : Int) ≤ 31 := by omega
    have qsn : (sn : Int) ≤ 100 := by omega
    have q4 := h4
    clear HX HY HS
    go_enter Try.func5, Try.ntmps5
    go_wp2_with fail
    refine (alive_any _).mono ?_
    rintro r w3 ⟨rfl, hb3⟩
    have GX3 := hid (GX.out w3 hb3)
    clear GX
    go_wp2_with (first | (go_at_call 12; refine Calls.mono GX3.out ?_; rintro r w4 ⟨rfl, hb4⟩; have hb5 := hb3.trans (hb4.mono hb3.size); clear GX3 hb4) | (go_at_call 12; refine Calls.mono (GY.out w4 hb5) ?_; rintro r w5 ⟨rfl, hb6⟩; have hb7 := hb5.trans (hb6.mono hb5.size); clear GY hb6))
    go_ret
    exact ⟨rfl, hb7⟩
  by_cases h5 : 8 < bin
  · skip
    replace gx := hid gx
    replace gy := hid gy
    have GX := hid (fun W (h : Below w.heap.size w W) => rgood_any (sn : Int) xa xn xc xs W hxn.out.symm (HX.out.kept h) (by omega) (by omega) (by omega))
    simp only [gx.out] at GX
    have GY := hid (fun W (h : Below w.heap.size w W) => rgood_any (sn : Int) ya yn yc ys W hyn.out.symm (HY.out.kept h) (by omega) (by omega) (by omega))
    simp only [gy.out] at GY
    have qxn : (xn : Int) ≤ 31 := by omega
    have qyn : (yn : Int) ≤ 31 := by omega
    have qsn : (sn : Int) ≤ 100 := by omega
    have q4 : 0 ≤ bin := by omega
    have q5 := h5
    clear HX HY HS
    go_enter Try.func5, Try.ntmps5
    go_wp2_with fail
    refine (alive_any _).mono ?_
    rintro r w3 ⟨rfl, hb3⟩
    have GX3 := hid (GX.out w3 hb3)
    clear GX
    go_wp2_with (first | (go_at_call 12; refine Calls.mono GX3.out ?_; rintro r w4 ⟨rfl, hb4⟩; have hb5 := hb3.trans (hb4.mono hb3.size); clear GX3 hb4) | (go_at_call 12; refine Calls.mono (GY.out w4 hb5) ?_; rintro r w5 ⟨rfl, hb6⟩; have hb7 := hb5.trans (hb6.mono hb5.size); clear GY hb6))
    go_ret
    exact ⟨rfl, hb7⟩
  · replace gx := hid gx
    replace gy := hid gy
    have lx : Hid (xs.length ≤ 31) := hid (by rw [hxn.out]; omega)
    have ly : Hid (ys.length ≤ 31) := hid (by rw [hyn.out]; omega)
    have q4 : 0 ≤ bin := by omega
    have q5 : bin ≤ 8 := by omega
    have gx2 : Hid (goodB (sl.length : Int) xs = true) := hid (by rw [hsn.out]; exact gx.out)
    have gy2 : Hid (goodB (sl.length : Int) ys = true) := hid (by rw [hsn.out]; exact gy.out)
    have px := good_pos _ _ gx.out
    have py := good_pos _ _ gy.out
    have JG := hid (joined_good (sn : Int) xs ys bin q4 q5 gx.out gy.out lx.out ly.out)
    have JT := hid (joined_trap sl [] xs ys bin q4 q5 gx2.out gy2.out lx.out ly.out)
    have JV := hid (fun x y => joined_val sl xs ys bin x y q4 q5 gx2.out gy2.out lx.out ly.out)
    have RX := hid (good_run sl [] xs gx2.out)
    have RY := hid (good_run sl [] ys gy2.out)
    obtain ⟨xb, xoff, rfl, _⟩ := HX.out 0 px
    obtain ⟨yb, yoff, rfl, _⟩ := HY.out 0 py
    have xok := hid HX.out.allOk
    have yok := hid HY.out.allOk
    have sU := hid HS.out.allU
    have GX := hid (fun W (h : Below w.heap.size w W) => rgood_any (sn : Int) (some ⟨xb, xoff, none⟩) xn xc xs W hxn.out.symm (HX.out.kept h) (by omega) (by omega) (by omega))
    simp only [gx.out] at GX
    have GY := hid (fun W (h : Below w.heap.size w W) => rgood_any (sn : Int) (some ⟨yb, yoff, none⟩) yn yc ys W hyn.out.symm (HY.out.kept h) (by omega) (by omega) (by omega))
    simp only [gy.out] at GY
    have qxn : (xn : Int) ≤ 31 := by omega
    have qyn : (yn : Int) ≤ 31 := by omega
    have qsn : (sn : Int) ≤ 100 := by omega
    clear px py h1 h2 h3 h4 h5
    go_enter Try.func5, Try.ntmps5
    go_wp2_with fail
    refine (alive_any _).mono ?_
    rintro r w3 ⟨rfl, hb3⟩
    have GX3 := hid (GX.out w3 hb3)
    clear GX
    replace hb3 := hid hb3
    go_wp2_with fail
    refine Calls.mono GX3.out ?_
    rintro r w4 ⟨rfl, hb4⟩
    have B4 := hid (hb3.out.trans (hb4.mono hb3.out.size))
    clear GX3 hb4 hb3
    go_wp2_with fail
    refine Calls.mono (GY.out w4 B4.out) ?_
    rintro r w5 ⟨rfl, hb5⟩
    have B5 := hid (B4.out.trans (hb5.mono B4.out.size))
    clear GY hb5 B4
    have B6 := hid (B5.out.alloc B5.out.size (.cells #[] 36))
    have R6 := hid (IRow.new0 w.heap.size w5 B5.out.size)
    go_wp2_with (first
      | (at_builtin; refine wl_appI rfl _ _ rfl w.heap.size (.slice (some ⟨w5.heap.size, 0, none⟩) 0 0) rfl 0 [] R6.out xb xoff xn xc rfl xs hxn.out.symm (HX.out.kept B6.out) B6.out.size (by omega) ?_; intro p1 c1 w7 n7 hn7 R7 Bx G7; have B7 := hid (B6.out.trans Bx.out); clear Bx G7 B6 R6)
      | (at_builtin; refine wl_appI rfl _ _ rfl w.heap.size (.slice p1 n7 c1) rfl n7 ([] ++ xs) R7.out yb yoff yn yc rfl ys hyn.out.symm (HY.out.kept B7.out) B7.out.size (by rw [hn7.out]; omega) ?_; intro p2 c2 w8 n8 hn8 R8 Bx G8; have B8 := hid (B7.out.trans Bx.out); have R9 := hid (R8.out.kept ((Below.refl _ _).alloc (Nat.le_refl _) (.cells #[.int .i64 8, .int .i64 bin, .int .u64 0] 36))); have N9 := hid (items_new w8 [opB bin] (by intro y hy; simp at hy; subst hy; simp [Itm.ok, opB]; omega) #[.int .i64 8, .int .i64 bin, .int .u64 0] rfl); have B9 := hid (B8.out.alloc B8.out.size (.cells #[.int .i64 8, .int .i64 bin, .int .u64 0] 36)); clear Bx G8 B7 R7)
      | (at_builtin; refine wl_appI rfl _ _ rfl w.heap.size (.slice p2 n8 c2) rfl n8 ([] ++ xs ++ ys) R9.out w8.heap.size 0 1 1 rfl [opB bin] rfl N9.out B9.out.size (by rw [hn8.out, hn7.out]; omega) ?_; intro p3 c3 w10 n10 hn10 R10 Bx G10; have B10 := hid (B9.out.trans Bx.out); clear Bx G10 B9 R9 N9 R8 B8))
    have CX := hid (eval_any (some ⟨xb, xoff, none⟩) sa none xn xc sn sc 0 0 xs sl [] w10 hxn.out.symm hsn.out.symm rfl (HX.out.kept B10.out) (HS.out.kept B10.out) (NumsAt.nil _ _ _) (by omega) (by omega) (by omega))
    have CY := hid (fun W (h : Below w10.heap.size w10 W) => eval_any (some ⟨yb, yoff, none⟩) sa none yn yc sn sc 0 0 ys sl [] W hyn.out.symm hsn.out.symm rfl ((HY.out.kept B10.out).kept h) ((HS.out.kept B10.out).kept h) (NumsAt.nil _ _ _) (by omega) (by omega) (by omega))
    have e10 : Hid (n10 = (xs ++ ys ++ [opB bin]).length) := hid R10.out.1
    have h10 : n10 ≤ 100 := by rw [hn10.out, hn8.out, hn7.out]; omega
    have CZ := hid (fun W (h : Below w10.heap.size w10 W) => eval_any p3 sa none n10 c3 sn sc 0 0 (xs ++ ys ++ [opB bin]) sl [] W e10.out hsn.out.symm rfl (R10.out.at.kept h) ((HS.out.kept B10.out).kept h) (NumsAt.nil _ _ _) (by omega) (by omega) (by omega))
    have GZ := hid (fun W (h : Below w10.heap.size w10 W) => good_any (sn : Int) p3 n10 c3 (xs ++ ys ++ [opB bin]) W e10.out (R10.out.at.kept h) (by omega) (by omega) (by omega))
    simp only [JG.out] at GZ
    clear HX HY HS R10 hn10 hn8 hn7 JG
    rcases RX.out with ⟨t1, r1, v1⟩ | ⟨t1, r1⟩
    · obtain ⟨z0, z1⟩ := JT.out (.inl r1)
      simp only [z0, z1] at CZ
      simp only [t1, v1] at CX
      have ty : Hid (evT sl [] ys = 0 ∨ evT sl [] ys = 1) := hid (by rcases RY.out with ⟨t, _⟩ | ⟨t, _⟩ <;> simp [t])
      generalize evT sl [] ys = et at *
      generalize evN sl [] ys = en at *
      clear RX RY JT JV z0 z1 t1 v1 r1
      go_wp2_with fail
      refine Calls.mono CX.out ?_
      rintro r w11 ⟨rfl, hb11⟩
      replace hb11 := hid hb11
      clear CX
      go_wp2_with fail
      refine Calls.mono (CY.out w11 hb11.out) ?_
      rintro r w12 ⟨rfl, hb12⟩
      have D12 := hid (hb11.out.trans (hb12.mono hb11.out.size))
      clear CY hb12 hb11
      go_wp2_with fail
      refine Calls.mono (CZ.out w12 D12.out) ?_
      rintro r w13 ⟨rfl, hb13⟩
      have D13 := hid (D12.out.trans (hb13.mono D12.out.size))
      clear CZ hb13 D12
      go_wp2_with fail
      refine Calls.mono (GZ.out w13 D13.out) ?_
      rintro r w14 ⟨rfl, hb14⟩
      have D14 := hid (D13.out.trans (hb14.mono D13.out.size))
      have B14 := hid (B10.out.trans (D14.out.mono B10.out.size))
      clear GZ hb14 D13 D14
      go_wp2
      go_ret
      exact ⟨rfl, B14.out⟩
    rcases RY.out with ⟨t2, r2, v2⟩ | ⟨t2, r2⟩
    · obtain ⟨z0, z1⟩ := JT.out (.inr r2)
      simp only [z0, z1] at CZ
      simp only [t2, v2] at CY
      simp only [t1] at CX
      generalize evN sl [] xs = en at *
      clear RX RY JT JV z0 z1 t2 v2 r2 t1 r1
      go_wp2_with fail
      refine Calls.mono CX.out ?_
      rintro r w11 ⟨rfl, hb11⟩
      replace hb11 := hid hb11
      clear CX
      go_wp2_with fail
      refine Calls.mono (CY.out w11 hb11.out) ?_
      rintro r w12 ⟨rfl, hb12⟩
      have D12 := hid (hb11.out.trans (hb12.mono hb11.out.size))
      clear CY hb12 hb11
      go_wp2_with fail
      refine Calls.mono (CZ.out w12 D12.out) ?_
      rintro r w13 ⟨rfl, hb13⟩
      have D13 := hid (D12.out.trans (hb13.mono D12.out.size))
      clear CZ hb13 D12
      go_wp2_with fail
      refine Calls.mono (GZ.out w13 D13.out) ?_
      rintro r w14 ⟨rfl, hb14⟩
      have D14 := hid (D13.out.trans (hb14.mono D13.out.size))
      have B14 := hid (B10.out.trans (D14.out.mono B10.out.size))
      clear GZ hb14 D13 D14
      go_wp2
      go_ret
      exact ⟨rfl, B14.out⟩
    · obtain ⟨z0, z1⟩ := JV.out _ _ r1 r2
      simp only [z0, z1] at CZ
      simp only [t2] at CY
      simp only [t1] at CX
      have ux : Hid (U (evN sl [] xs)) := hid (evU sl [] xs sU.out xok.out)
      have uy : Hid (U (evN sl [] ys)) := hid (evU sl [] ys sU.out yok.out)
      generalize evN sl [] xs = x at *
      generalize evN sl [] ys = y at *
      have NZ := hid (fun W => items_new W [⟨1, 0, x⟩, ⟨1, 0, y⟩, opB bin] (by intro q hq; have := ux.out; have := uy.out; unfold U at *; simp at hq; rcases hq with rfl | rfl | rfl <;> simp [Itm.ok, opB] <;> omega) #[.int .i64 1, .int .i64 0, .int .u64 x, .int .i64 1, .int .i64 0, .int .u64 y, .int .i64 8, .int .i64 bin, .int .u64 0] rfl)
      have CW := hid (fun W : World => eval_any (some ⟨W.heap.size, 0, none⟩) none none 3 3 0 0 0 0 _ [] [] _ rfl rfl rfl (NZ.out W) (NumsAt.nil _ _ _) (NumsAt.nil _ _ _) (by omega) (by omega) (by omega))
      generalize evN [] [] [⟨1, 0, x⟩, ⟨1, 0, y⟩, opB bin] = zn at *
      generalize evT [] [] [⟨1, 0, x⟩, ⟨1, 0, y⟩, opB bin] = zt at *
      clear RX RY JT JV z0 z1 t2 r2 t1 r1 NZ ux uy
      go_wp2_with fail
      refine Calls.mono CX.out ?_
      rintro r w11 ⟨rfl, hb11⟩
      replace hb11 := hid hb11
      clear CX
      go_wp2_with fail
      refine Calls.mono (CY.out w11 hb11.out) ?_
      rintro r w12 ⟨rfl, hb12⟩
      have D12 := hid (hb11.out.trans (hb12.mono hb11.out.size))
      clear CY hb12 hb11
      go_wp2_with fail
      refine Calls.mono (CZ.out w12 D12.out) ?_
      rintro r w13 ⟨rfl, hb13⟩
      have D13 := hid (D12.out.trans (hb13.mono D12.out.size))
      clear CZ hb13 D12
      go_wp2_with fail
      refine Calls.mono (GZ.out w13 D13.out) ?_
      rintro r w14 ⟨rfl, hb14⟩
      have D14 := hid (D13.out.trans (hb14.mono D13.out.size))
      have B14 := hid (B10.out.trans (D14.out.mono B10.out.size))
      clear GZ hb14 D13 D14
      go_wp2_with fail
      refine Calls.mono (CW.out w14) ?_
      rintro r w15 ⟨rfl, hb15⟩
      have Bn := hid (B14.out.alloc B14.out.size (.cells #[.int .i64 1, .int .i64 0, .int .u64 x, .int .i64 1, .int .i64 0, .int .u64 y, .int .i64 8, .int .i64 bin, .int .u64 0] 36))
      have B15 := hid (Bn.out.trans (hb15.mono Bn.out.size))
      clear CW hb15 Bn B14
      have z1 : (zn == zn) = true := by simp
      have z2 : (zt == zt) = true := by simp
      go_wp2
      go_ret
      exact ⟨rfl, B15.out⟩

set_option maxRecDepth 100000 in
theorem lifted (os : Os) (started : os.Started) (H : Type) (enc : TypeId × Value → H) :
    ReturnsInHanded {} Try.checked os 5 .any (Rows.calcJoinsSpec.pre6 enc Try.prog Try.f5 Rows.calcJoinsRow.domain false) (Rows.calcJoinsSpec.post enc Try.prog Try.f5 false true false false) := by
  refine returnsInHanded_of_change (C := Try.checked) own started (by kernel_rfl) Try.func5
    (ChangeSpec.witness6 (enc := enc) (C := Try.checked) false ⟨#[], #[.slice none 0 0, .slice none 0 0, .slice none 0 0, .int .i64 0], []⟩ 8 (by kernel_rfl) (by kernel_rfl) (by kernel_rfl) (by kernel_rfl)) ?_
  intro W base args ds gs before hval0 hW hcnd _
  have hval : ∀ (j : Nat) t v, Try.f5.params[j]? = some t → args[j]? = some v → Value.okWide Try.prog W .any base t v := hval0
  have hW' := hW
  obtain ⟨p, q, hA0, hV, rfl, hfz, hnd⟩ := hW
  have hA : DataW.TrodAll enc Try.prog W 0 (fun _ => true) true Try.f5.params.toList args.toList ds p := hA0
  rw [Try.params5] at hA hval
  obtain ⟨v0, vs0, d0, ds0, p0, q0, hargs, rfl, rfl, h0, r0⟩ := trodAll_cons hA
  obtain ⟨v1, vs1, d1, ds1, p1, q1, rfl, rfl, rfl, h1, r1⟩ := trodAll_cons r0
  obtain ⟨v2, vs2, d2, ds2, p2, q2, rfl, rfl, rfl, h2, r2⟩ := trodAll_cons r1
  obtain ⟨v3, vs3, d3, ds3, p3, q3, rfl, rfl, rfl, h3, r3⟩ := trodAll_cons r2
  obtain ⟨rfl, rfl, rfl⟩ := trodAll_nil r3
  obtain rfl : args = #[v0, v1, v2, v3] := by cases args; simp_all
  obtain ⟨rfl, rfl⟩ := trodVars_none hV
  have k0 := h0
  have lt0 : ∀ x ∈ p0, x.block < W.heap.size := by obtain ⟨m, hm⟩ := k0; exact DataW.trod_lt m _ _ _ hm
  obtain ⟨x0, w0⟩ := open22 (hval 0 22 v0 rfl rfl) h0
  have k1 := h1
  have lt1 : ∀ x ∈ p1, x.block < W.heap.size := by obtain ⟨m, hm⟩ := k1; exact DataW.trod_lt m _ _ _ hm
  obtain ⟨x1, w1⟩ := open22 (hval 1 22 v1 rfl rfl) h1
  have k2 := h2
  have lt2 : ∀ x ∈ p2, x.block < W.heap.size := by obtain ⟨m, hm⟩ := k2; exact DataW.trod_lt m _ _ _ hm
  obtain ⟨x2, w2⟩ := open23 (hval 2 23 v2 rfl rfl) h2
  obtain ⟨a3, rfl, rfl, rfl, w3⟩ := open_int Try.underlying3 (hval 3 3 v3 rfl rfl) h3
  clear hA0 hval0
  refine (walk v0 x0 v1 x1 v2 x2 a3 W w0 w1 w2 w3).mono fun e W' ⟨he, bel⟩ => ?_
  subst he
  exact ⟨_, rfl, _, _, _, [], _, [], hW', trodAll_mk1 (shut_bool Try.underlying4 _), (trodAll_cons_mk (Below.trod laidOut (by kernel_rfl) (of_decide_eq_true (by kernel_rfl)) k0 bel lt0) (trodAll_cons_mk (Below.trod laidOut (by kernel_rfl) (of_decide_eq_true (by kernel_rfl)) k1 bel lt1) (trodAll_cons_mk (Below.trod laidOut (by kernel_rfl) (of_decide_eq_true (by kernel_rfl)) k2 bel lt2) (trodAll_cons_mk (shut_int Try.underlying3 w3) trodAll_mk0)))), rfl, bel.frame _, fun h => by cases h⟩

theorem over : Rows.calcJoinsRow.holds Try.pinned (OpenSpec.ofChange Rows.calcJoinsSpec) :=
  OpenClaim.holds_of_wide 5 Try.f5 rfl rfl rfl rfl rfl rfl rfl ⟨rfl, rfl, rfl, rfl, rfl⟩ rfl rfl rfl rfl rfl (by kernel_rfl) Try.func5 (by kernel_rfl)
    (of_decide_eq_true (by kernel_rfl)) (by unfold Func.isWrapper; first | (rw [if_pos (by decide +kernel)]; kernel_rfl) | (rw [if_neg (by decide +kernel)]; exact ⟨rfl, rfl⟩))
    (fun os started H enc _ => lifted os started H enc)

theorem proved : Rows.CalcJoinsSaid :=
  over
end Go.Proofs.Ytefcpidegnddiaa.calcJoins
