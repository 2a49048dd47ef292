/- Contracts of calc's Good and of the document's Good, over the landed code: both answer goodB. -/
import Derived.Test.YtdpbapoahfggeaaDoorCans
import Derived.Test.YtdpbapoahfggeaaDoorRwi
import Derived.WalkKit
import Derived.ProofKit
namespace Go.Proofs.YtdpbapoahfggeaaDoor
open Go.ChangeShapes Go.WideShapes Go.ChangeAt Go.RowKit
set_option linter.unusedVariables false

theorem drop_here {α : Type} (d : α) (l : List α) (j : Nat) (h : j < l.length) : l.drop j = l.getD j d :: l.drop (j + 1) := by
  rw [List.drop_eq_getElem_cons h]
  simp [List.getD, h]

theorem hgt_no (s : Int) (x : Itm) (l : List Itm) (h : Nat) (c : ¬ (can s x = true ∧ tk x.op ≤ h)) : hgt s (x :: l) h = none := by
  show (if _ then _ else _) = _
  rw [if_neg c]
theorem hgt_yes (s : Int) (x : Itm) (l : List Itm) (h : Nat) (c : can s x = true) (c2 : tk x.op ≤ h) : hgt s (x :: l) h = hgt s l (h - tk x.op + 1) := by
  show (if _ then _ else _) = _
  rw [if_pos ⟨c, c2⟩]

theorem good_none (s : Int) (l : List Itm) (h : hgt s l 0 = none) : goodB s l = false := by
  unfold goodB; rw [h]; simp
theorem good_some (s : Int) (l : List Itm) (k : Nat) (h : hgt s l 0 = some k) (h64 : l.length ≤ 64) : goodB s l = ((k : Int) == 1) := by
  unfold goodB; rw [h, decide_eq_true h64, Bool.eq_iff_iff]; simp; omega
theorem good_long (s : Int) (l : List Itm) (h64 : 64 < l.length) : goodB s l = false := by
  unfold goodB; rw [decide_eq_false (by omega)]; rfl


set_option maxRecDepth 100000 in
set_option maxHeartbeats 1000000 in
theorem good_any (s : Int) (a : Option Addr) (n cap : Nat) (xs : List Itm) (w : World) (hn : n = xs.length) (hx : ItemsAt w a xs) (hl : n ≤ 1000000) (h0 : -9223372036854775808 ≤ s) (h1 : s ≤ 9223372036854775807) :
    Calls Tryd.prog 82 #[.int .i64 s, .slice a n cap] w fun e w' => e = .returned (.bool (goodB s xs)) ∧ Below w.heap.size w w' := by
  have HN : Hid (n = xs.length) := hn
  have HX : Hid (ItemsAt w a xs) := hx
  clear hn hx
  by_cases h64 : 64 < n
  · have h64' : (64 : Int) < (n : Int) := by omega
    go_enter Tryd.func82, Tryd.ntmps82
    go_wp2
    go_ret
    exact ⟨retB (good_long s xs (by rw [← HN.out]; exact h64)).symm, Below.refl _ _⟩
  · have h64' : (n : Int) ≤ 64 := by omega
    go_enter Tryd.func82, Tryd.ntmps82
    go_wp2_with fail
    go_loopw [5, 14] (fun t5 t wr => ∃ (j h : Nat), t = .int .i64 j ∧ j ≤ n ∧ t5 = .int .i64 h ∧ h ≤ j ∧ Hid (hgt s (xs.drop j) h = hgt s xs 0) ∧ Hid (Below w.heap.size w wr)) (fun _ t _ => n - (intOf t).toNat)
    case atStart => exact ⟨0, 0, rfl, by omega, rfl, by omega, rfl, Below.refl _ _⟩
    case round =>
      obtain ⟨j, h, rfl, hj, rfl, hh, E, B⟩ := hrel
      by_cases hjn : j < n
      · obtain ⟨b, off, rfl, hb, ⟨c0, c1, c2⟩, ok⟩ := HX.out j (by rw [← HN.out]; exact hjn)
        rw [← B.out.cell hb] at c0 c1 c2
        have D : Hid (xs.drop j = xs.getD j Itm.blank :: xs.drop (j + 1)) := drop_here _ _ _ (by rw [← HN.out]; exact hjn)
        generalize xs.getD j Itm.blank = x at *
        have E2 : Hid (hgt s (x :: xs.drop (j + 1)) h = hgt s xs 0) := by rw [← D.out]; exact E.out
        have ok' : Hid x.ok := ok
        clear D E ok HX
        by_cases ht : tk x.op ≤ h
        · have HT : Hid (tk x.op ≤ h) := ht
          have q1 : ((tk x.op : Nat) : Int) ≤ (h : Int) := by omega
          have q2 : 0 ≤ (h : Int) - ((tk x.op : Nat) : Int) := by omega
          have C := fun W => canBe_any s x W ok'.out h0 h1
          cases hc : can s x
          · simp only [hc] at C
            have HC : Hid (can s x = false) := hc
            clear hc ht
            go_wp2_with (first | (go_at_call 88; refine (takes_any _ _).mono ?_; rintro e w' ⟨rfl, rfl⟩) | (go_at_call 89; refine (C _).mono ?_; rintro e w' ⟨rfl, hb3⟩))
            go_ret
            refine ⟨retB (good_none s xs ?_).symm, ?_⟩
            · rw [← E2.out]; exact hgt_no _ _ _ _ (by rw [HC.out]; simp)
            · exact (B.out.alloc B.out.size _).trans (hb3.mono (by have := B.out.size; simp; omega))
          · simp only [hc] at C
            have HC : Hid (can s x = true) := hc
            clear hc ht
            go_wp2_with (first | (go_at_call 88; refine (takes_any _ _).mono ?_; rintro e w' ⟨rfl, rfl⟩) | (go_at_call 89; refine (C _).mono ?_; rintro e w' ⟨rfl, hb3⟩))
            go_roundw
            case rel =>
              refine ⟨j + 1, h - tk x.op + 1, by go_num, by omega, ?_, by omega, ?_, ?_⟩
              · have := HT.out
                congr 1; omega
              · rw [Hid, ← E2.out]; exact (hgt_yes _ _ _ _ HC.out HT.out).symm
              · exact (B.out.alloc B.out.size _).trans (hb3.mono (by have := B.out.size; simp; omega))
            case measure => simp [intOf]; omega
        · have HT : Hid (¬ tk x.op ≤ h) := ht
          have q2 : (h : Int) - ((tk x.op : Nat) : Int) < 0 := by omega
          have := tk_le x.op
          clear ht
          go_wp2_with (first | (go_at_call 88; refine (takes_any _ _).mono ?_; rintro e w' ⟨rfl, rfl⟩))
          go_ret
          refine ⟨retB (good_none s xs ?_).symm, B.out.alloc B.out.size _⟩
          rw [← E2.out]; exact hgt_no _ _ _ _ (fun c => HT.out c.2)
      · have e : j = n := by omega
        have E2 : Hid (hgt s xs 0 = some h) := by
          rw [Hid, ← E.out, List.drop_of_length_le (by rw [← HN.out]; omega)]; rfl
        clear E HX
        go_wp2
        go_ret
        exact ⟨retB (good_some s xs h E2.out (by rw [← HN.out]; omega)).symm, B.out⟩
end Go.Proofs.YtdpbapoahfggeaaDoor
