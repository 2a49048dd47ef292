/- Contract of the document's Good, over its own code: goodB. -/
import Derived.Test.YtjjfhjelkioehaaRTakes
import Derived.Test.YtjjfhjelkioehaaGoods
namespace Go.Proofs.Ytjjfhjelkioehaa
open Go.ChangeShapes Go.WideShapes Go.ChangeAt Go.RowKit
set_option linter.unusedVariables false

theorem take_rev (d : Itm) (l : List Itm) (i : Nat) (h : i < l.length) : (l.take (i + 1)).reverse = l.getD i d :: (l.take i).reverse := by
  have : l.getD i d = l[i] := by simp [List.getD, h]
  rw [List.take_succ_eq_append_getElem h, List.reverse_append, this]; rfl

theorem wnt_no (s : Int) (x : Itm) (l : List Itm) (k : Nat) (c : ¬ (can s x = true ∧ k ≠ 0)) : wnt s (x :: l) k = none := by
  show (if _ then _ else _) = _
  rw [if_neg c]
theorem wnt_yes (s : Int) (x : Itm) (l : List Itm) (k : Nat) (c : can s x = true) (c2 : k ≠ 0) : wnt s (x :: l) k = wnt s l (k - 1 + tk x.op) := by
  show (if _ then _ else _) = _
  rw [if_pos ⟨c, c2⟩]

theorem rgood_none (s : Int) (l : List Itm) (h : wnt s l.reverse 1 = none) : goodB s l = false := by
  rw [good_right, h]; rfl
theorem rgood_some (s : Int) (l : List Itm) (k : Nat) (h : wnt s l.reverse 1 = some k) : goodB s l = (((k : Int) == 0) && decide (l.length ≤ 64)) := by
  rw [good_right, h]
  congr 1
  rw [Bool.eq_iff_iff]; simp

set_option maxRecDepth 100000 in
set_option maxHeartbeats 1000000 in
theorem rgood_any (s : Int) (a : Option Addr) (n cap : Nat) (xs : List Itm) (w : World) (hn : n = xs.length) (hx : ItemsAt w a xs) (hl : n ≤ 1000000) (h0 : -9223372036854775808 ≤ s) (h1 : s ≤ 9223372036854775807) :
    Calls Try.prog 45 #[.slice a n cap, .int .i64 s] w fun e w' => e = .returned (.bool (goodB s xs)) ∧ Below w.heap.size w w' := by
  have HN := hid hn
  have HX := hid hx
  clear hn hx
  go_enter Try.func45, Try.ntmps45
  go_wp2_with fail
  go_loopw [5, 6] (fun t5 t wr => ∃ (i : Int) (k : Nat), t = .int .i64 i ∧ -1 ≤ i ∧ i < n ∧ t5 = .int .i64 k ∧ (k : Int) + i ≤ n ∧ Hid (wnt s (xs.take (i + 1).toNat).reverse k = wnt s xs.reverse 1) ∧ Hid (Below w.heap.size w wr)) (fun _ t _ => (intOf t + 1).toNat)
  case atStart =>
    refine ⟨(n : Int) - 1, 1, rfl, by omega, by omega, rfl, by omega, ?_, Below.refl _ _⟩
    have e : ((n : Int) - 1 + 1).toNat = n := by omega
    rw [Hid, e, List.take_of_length_le (by rw [← HN.out]; omega)]
  case round =>
    obtain ⟨i, k, rfl, hi0, hi1, rfl, hki, E, B⟩ := hrel
    by_cases hneg : i < 0
    · have e : i = -1 := by omega
      subst e
      have E2 := hid (show wnt s xs.reverse 1 = some k by rw [← E.out]; rfl)
      clear E HX hneg
      cases hk : ((k : Int) == 0)
      · have F : Hid (goodB s xs = false) := hid (by rw [rgood_some s xs k E2.out, hk]; rfl)
        clear E2
        go_wp2
        go_ret
        exact ⟨retB F.out.symm, B.out⟩
      · have F : Hid (goodB s xs = decide ((n : Int) ≤ 64)) := hid (by
          rw [rgood_some s xs k E2.out, hk, ← HN.out, Bool.eq_iff_iff]; simp; omega)
        clear E2
        go_wp2
        go_ret
        exact ⟨retB F.out.symm, B.out⟩
    · obtain ⟨j, rfl⟩ := Int.eq_ofNat_of_zero_le (show 0 ≤ i by omega)
      have hjn : j < n := by omega
      obtain ⟨b, off, rfl, hb, ⟨c0, c1, c2⟩, ok⟩ := HX.out j (by rw [← HN.out]; exact hjn)
      rw [← B.out.cell hb] at c0 c1 c2
      have ej : ((j : Int) + 1).toNat = j + 1 := by omega
      have D := hid (take_rev Itm.blank xs j (by rw [← HN.out]; exact hjn))
      rw [ej, D.out] at E
      generalize xs.getD j Itm.blank = x at *
      replace ok := hid ok
      have T := hid (rtakes_any s x wr ok.out h0 h1)
      clear D HX hneg hi0
      have ht2 := tk_le x.op
      cases hc : can s x
      · have r : Hid (rtk s x = -1) := hid (by unfold rtk; rw [hc]; rfl)
        rw [r.out] at T
        have F : Hid (goodB s xs = false) := hid (rgood_none s xs (by rw [← E.out]; exact wnt_no _ _ _ _ (by rw [hc]; simp)))
        clear r E hc
        go_wp2_with (go_at_call 52; refine Calls.mono T.out ?_; rintro e w' ⟨rfl, hb'⟩)
        go_ret
        exact ⟨retB F.out.symm, B.out.trans (hb'.mono B.out.size)⟩
      · have r : Hid (rtk s x = tk x.op) := hid (by unfold rtk; rw [hc]; rfl)
        rw [r.out] at T
        by_cases hk : k = 0
        · subst hk
          have F : Hid (goodB s xs = false) := hid (rgood_none s xs (by rw [← E.out]; exact wnt_no _ _ _ _ (by simp)))
          clear r E hc
          generalize tk x.op = t at *
          have q : (0 : Int) ≤ (t : Int) := by omega
          go_wp2_with (go_at_call 52; refine Calls.mono T.out ?_; rintro e w' ⟨rfl, hb'⟩)
          go_ret
          exact ⟨retB F.out.symm, B.out.trans (hb'.mono B.out.size)⟩
        · have E2 : Hid (wnt s (xs.take j).reverse (k - 1 + tk x.op) = wnt s xs.reverse 1) := hid (by rw [← E.out]; exact (wnt_yes _ _ _ _ hc hk).symm)
          clear r E hc
          generalize tk x.op = t at *
          have q : (0 : Int) ≤ (t : Int) := by omega
          have q0 : ((k : Int) == 0) = false := by simp; omega
          go_wp2_with (go_at_call 52; refine Calls.mono T.out ?_; rintro e w' ⟨rfl, hb'⟩)
          go_roundw
          case rel =>
            refine ⟨(j : Int) - 1, k - 1 + t, rfl, by omega, by omega, ?_, by omega, ?_, hid (B.out.trans (hb'.mono B.out.size))⟩
            · congr 1; omega
            · have e : ((j : Int) - 1 + 1).toNat = j := by omega
              rw [e]; exact E2
          case measure => simp [intOf]
end Go.Proofs.Ytjjfhjelkioehaa
