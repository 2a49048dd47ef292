/- Contract of calc's Eval, over the landed code. -/
import Derived.Test.YtefcpidegnddiaaEvals
namespace Go.Proofs.Ytefcpidegnddiaa
open Go.ChangeShapes Go.WideShapes Go.ChangeAt Go.RowKit
set_option linter.unusedVariables false

theorem retUT {a b c d : Int} (h : a = b) (h2 : c = d) : Ending.returned (.tuple #[.int .u64 a, .int .i64 c]) = .returned (.tuple #[.int .u64 b, .int .i64 d]) := by rw [h, h2]

theorem keep3 {w w' : World} {x : Itm}
    (h : Below (w.alloc (.cells #[.int .i64 x.op, .int .i64 x.bin, .int .u64 x.n] 36)).drew.heap.size (w.alloc (.cells #[.int .i64 x.op, .int .i64 x.bin, .int .u64 x.n] 36)).drew w') :
    w'.cell? ⟨w.heap.size, 0, none⟩ = some (.int .i64 x.op) ∧ w'.cell? ⟨w.heap.size, 1, none⟩ = some (.int .i64 x.bin) ∧ w'.cell? ⟨w.heap.size, 2, none⟩ = some (.int .u64 x.n) := by
  have hz : w.heap.size < (w.alloc (.cells #[.int .i64 x.op, .int .i64 x.bin, .int .u64 x.n] 36)).drew.heap.size := by simp
  refine ⟨?_, ?_, ?_⟩
  · rw [h.cell (p := ⟨w.heap.size, 0, none⟩) hz]; exact new_cell _ _ _ _ _ rfl
  · rw [h.cell (p := ⟨w.heap.size, 1, none⟩) hz]; exact new_cell _ _ _ _ _ rfl
  · rw [h.cell (p := ⟨w.heap.size, 2, none⟩) hz]; exact new_cell _ _ _ _ _ rfl

theorem runE_cons (sl ins : List Int) (x : Itm) (l : List Itm) (st : List Int) : runE sl ins (x :: l) st = if stB x st then runE sl ins l (stN sl ins x st) else none := rfl

set_option maxRecDepth 100000 in
set_option maxHeartbeats 1000000 in
theorem eval_any (xa sa ia : Option Addr) (xn xc sn sc im ic : Nat) (xs : List Itm) (sl ins : List Int) (w : World) (hxn : xn = xs.length) (hs : sn = sl.length) (hi : im = ins.length) (hX : ItemsAt w xa xs) (hS : NumsAt .u64 w sa sl) (hI : NumsAt .i64 w ia ins) (hxl : xn ≤ 1000000) (hsl : sn ≤ 1000000) (hil : im ≤ 1000000) :
    Calls Try.prog 9 #[.slice sa sn sc, .slice ia im ic, .slice xa xn xc] w fun e w' => e = .returned (.tuple #[.int .u64 (evN sl ins xs), .int .i64 (evT sl ins xs)]) ∧ Below w.heap.size w w' := by
  have G := hid (good_any (sn : Int) xa xn xc xs w hxn hX hxl (by omega) (by omega))
  have HX := hid hX
  have HS := hid hS
  have HI := hid hI
  have HN := hid hxn
  have HSN := hid hs
  have HIM := hid hi
  clear hX hS hI hxn hs hi
  cases hg : goodB (sn : Int) xs
  · have E := hid (evN_bad (sl := sl) (ins := ins) (l := xs) (by rw [← HSN.out]; exact hg))
    rw [hg] at G
    clear hg HX HS HI
    go_enter Try.func9, Try.ntmps9
    go_wp2_with (go_at_call 11; refine G.out.mono ?_; rintro e w' ⟨rfl, hb⟩)
    go_ret2
    exact ⟨retUT E.out.1.symm E.out.2.symm, hb⟩
  · have GH := hid (good_hgt hg)
    rw [hg] at G
    replace hg := hid hg
    have h64 : xn ≤ 64 := by rw [HN.out]; exact GH.out.2
    have AU := hid HS.out.allU
    go_enter Try.func9, Try.ntmps9
    go_wp2_with (first
      | (go_at_call 11; refine G.out.mono ?_; rintro e w1 ⟨rfl, hb1⟩; replace hb1 := hid hb1)
      | (refine wl_make _ rfl rfl xn rfl (by omega) ?_; intro w2 stk hb2 hz2))
    have B0 := hid (hb1.out.trans (hb2.out.mono hb1.out.size))
    have g0 : w.heap.size ≤ w1.heap.size := hb1.out.size
    generalize hgg : w1.heap.size = g at *
    replace hgg := hid hgg
    clear G hb1 hb2 hz2
    go_loopw [8, 24] (fun t8 t wr => ∃ (j k : Nat) (st : List Int), t = .int .i64 j ∧ j ≤ xn ∧ t8 = .slice (some ⟨g, 0, none⟩) k xn ∧ k ≤ j ∧ Hid (k = st.length) ∧ Hid (Stk wr g xn st) ∧ Hid (AllU st) ∧ Hid (hgt (sn : Int) (xs.drop j) k = some 1) ∧ Hid (runE sl ins (xs.drop j) st = runE sl ins xs []) ∧ Hid (Below w.heap.size w wr)) (fun _ t _ => xn - (intOf t).toNat)
    case atStart => exact ⟨0, 0, [], rfl, by omega, rfl, by omega, rfl, stk, fun _ h => by simp at h, GH.out.1, rfl, B0⟩
    case round =>
      obtain ⟨j, k, st, rfl, hj, rfl, hk, hkl, S, AS, E, R, B⟩ := hrel
      clear stk B0
      by_cases hjn : j < xn
      · obtain ⟨b, off, rfl, hb, ⟨c0, c1, c2⟩, ok⟩ := HX.out j (by rw [← HN.out]; exact hjn)
        rw [← B.out.cell hb] at c0 c1 c2
        have D := hid (drop_here Itm.blank xs j (by rw [← HN.out]; exact hjn))
        generalize xs.getD j Itm.blank = x at *
        rw [D.out] at E R
        obtain ⟨cn, tl, E2⟩ := hgt_can E.out
        replace ok := hid ok
        replace cn := hid cn
        replace E2 := hid E2
        have ht2 := tk_le x.op
        generalize htk : tk x.op = t at *
        replace htk := hid htk
        obtain ⟨bl, rfl⟩ : ∃ bl, k = bl + t := ⟨k - t, by omega⟩
        have T := fun W => takes_any x.op W
        simp only [htk.out] at T
        have hWB := B.out.alloc B.out.size (.cells #[.int .i64 x.op, .int .i64 x.bin, .int .u64 x.n] 36)
        have hWk := (Below.refl wr.heap.size wr).alloc (Nat.le_refl _) (.cells #[.int .i64 x.op, .int .i64 x.bin, .int .u64 x.n] 36)
        have C := hid fun tc => (reckon_any x sa ia sn sc im ic g bl t tc xn sl ins st (wr.alloc (.cells #[.int .i64 x.op, .int .i64 x.bin, .int .u64 x.n] 36)).drew HSN.out HIM.out ok.out (can_slot ok.out cn.out) ((HS.out.kept (B.out.mono (Nat.le_refl _))).kept hWk.drew) ((HI.out.kept (B.out.mono (Nat.le_refl _))).kept hWk.drew) hsl hil (S.out.kept hWk.drew) AS.out htk.out.symm hkl.out.symm)
        replace hWB := hid hWB
        replace hWk := hid hWk
        clear D E HX HS HI
        go_wp2_with (first | (go_at_call 14; refine (T _).mono ?_; rintro e w' ⟨rfl, rfl⟩))
        have q1 : (bl : Int) ≤ (bl : Int) + (t : Int) := by omega
        have q2 : (bl : Int) ≤ (xn : Int) := by omega
        have q3 : (bl : Int) + (t : Int) ≤ (xn : Int) := by omega
        have q4 : ¬ xn = bl := by omega
        go_region_held3 (fun w' => w'.cell? ⟨wr.heap.size, 0, none⟩ = some (.int .i64 x.op) ∧ w'.cell? ⟨wr.heap.size, 1, none⟩ = some (.int .i64 x.bin) ∧ w'.cell? ⟨wr.heap.size, 2, none⟩ = some (.int .u64 x.n))
          (first | go_keep | exact hbz.out)
          ((go_at_call 15; with_reducible refine Calls.mono (C.out _) ?_; rintro e w' ⟨rfl, hb'⟩; have hbz := hid (keep3 hb')))
        have hbl : st.length - tk x.op = bl := by rw [htk.out, ← hkl.out]; omega
        have vN := hid (show stN sl ins x st = st.take bl ++ [reckN sl ins x (st.drop bl)] by unfold stN; rw [hbl])
        have vB := hid (show stB x st = reckB x (st.drop bl) by unfold stB; rw [hbl])
        have AV := hid (u_stN sl ins AU.out x ok.out st AS.out)
        rw [Hid, runE_cons] at R
        have B3 := hid (hWB.out.drew.trans (hb'.mono hWB.out.size))
        have SK := hid ((S.out.kept hWk.out.drew).kept hb')
        generalize reckN sl ins x (st.drop bl) = v at *
        generalize reckB x (st.drop bl) = q at *
        clear C hb' S hbz c0 c1 c2 hWk hWB hbl T
        replace R := hid R
        cases q
        · rw [vB.out] at R
          have F : Hid (runE sl ins xs [] = none) := hid (by rw [← R.out]; rfl)
          clear R SK
          go_wp2
          go_ret2
          refine ⟨retUT ?_ ?_, B3.out⟩
          · unfold evN; rw [← HSN.out, hg.out, F.out]; rfl
          · unfold evT; rw [← HSN.out, hg.out, F.out]; rfl
        · rw [vB.out, vN.out] at R
          rw [vN.out] at AV
          have B4 := hid (B3.out.alloc B3.out.size (.cells #[.int .u64 v] 26))
          have SK4 := hid (SK.out.kept ((Below.refl _ _).alloc (Nat.le_refl _) (.cells #[.int .u64 v] 26)))
          have NC := hid (new_cell w' #[.int .u64 v] 26 0 (.int .u64 v) rfl)
          have hbn : bl < xn := by omega
          clear SK
          go_wp2_with (first
            | (at_builtin; refine wl_push rfl _ _ rfl g bl xn rfl st SK4.out (by rw [← hkl.out]; omega) hbn ⟨w'.heap.size, 0, none⟩ 1 v rfl NC.out w.heap.size g0 ?_; intro w5 SK5 B5))
          go_roundw
          case rel =>
            refine ⟨j + 1, bl + 1, st.take bl ++ [v], by go_num, by omega, rfl, by omega, ?_, SK5, AV, ?_, ?_, ?_⟩
            · rw [Hid, List.length_append, List.length_take, ← hkl.out]; simp
            · have e : bl + t - t + 1 = bl + 1 := by omega
              rw [← e]; exact E2
            · rw [Hid, ← R.out]; rfl
            · exact hid (B4.out.trans B5.out)
          case measure => simp [intOf]; omega
      · have e : j = xn := by omega
        have F := hid (show runE sl ins xs [] = some st by rw [← R.out, List.drop_of_length_le (by rw [← HN.out]; omega)]; rfl)
        have e1 : k = 1 := by
          have := E.out
          rw [List.drop_of_length_le (by rw [← HN.out]; omega)] at this
          simpa [hgt] using this
        subst e1
        obtain ⟨v, rfl⟩ : ∃ v, st = [v] := by
          have := hkl.out
          match st, this with
          | [v], _ => exact ⟨v, rfl⟩
        have c := S.out.cell 0 v rfl
        clear R E HX HS HI S
        go_wp2
        go_ret2
        refine ⟨retUT ?_ ?_, B.out⟩
        · unfold evN; rw [← HSN.out, hg.out, F.out]; rfl
        · unfold evT; rw [← HSN.out, hg.out, F.out]; rfl
end Go.Proofs.Ytefcpidegnddiaa
