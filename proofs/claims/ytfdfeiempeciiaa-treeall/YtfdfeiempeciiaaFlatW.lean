/- The contract of the document's Flat. -/
import Derived.Test.YtfdfeiempeciiaaTwo
import Derived.Test.YtfdfeiempeciiaaFlat
import Derived.Test.YtfdfeiempeciiaaMade
import Derived.Deep.CutBlock
import Derived.Deep.CutRange
import Derived.Deep.DeepCutAuto
namespace Go.Proofs.Ytfdfeiempeciiaa
open Go.ChangeShapes Go.WideShapes Go.ChangeAt Go.RowKit
set_option linter.unusedVariables false

/-- What is asked of Flat on a row. -/
def FlatOk (l : List St) : Prop := ∀ (v : Value) (d : Int) (w : World) (F : Nat → Prop), stsOk w F v l → (flatL d l).length ≤ 1000000 →
  Calls Try.prog 18 #[v, .int .i64 d] w fun r w' => ∃ p1 n1 c1 p2 n2 c2, r = .returned (.tuple #[.slice p1 n1 c1, .slice p2 n2 c2]) ∧ Two w w' (.slice p1 n1 c1) (.slice p2 n2 c2) ((flatL d l).map (·.2)) ((flatL d l).map (·.1))
theorem flat_step (d : Int) (l : List St) (k : Nat) (s : St) (h : l[k]? = some s) : flatL d (l.take (k + 1)) = flatL d (l.take k) ++ ((d, s) :: (flatL (wrap64 (d + 1)) s.body ++ flatL (wrap64 (d + 1)) s.els)) := by
  rw [List.take_add_one, h, flatL_app]
  simp only [Option.toList_some, flatL_cons, flatL_nil, List.append_nil]
theorem flatL_len (d : Int) (l : List St) (k : Nat) (s : St) (h : l[k]? = some s) : (flatL d (l.take k)).length + (1 + ((flatL (wrap64 (d + 1)) s.body).length + (flatL (wrap64 (d + 1)) s.els).length)) ≤ (flatL d l).length := by
  have e : flatL d l = flatL d (l.take (k + 1)) ++ flatL d (l.drop (k + 1)) := by rw [← flatL_app, List.take_append_drop]
  rw [e, flat_step d l k s h]
  simp only [List.length_append, List.length_cons]
  omega

set_option maxRecDepth 100000 in
set_option maxHeartbeats 2000000 in
theorem flatW_step (l : List St) (ih : ∀ s ∈ l, FlatOk s.body ∧ FlatOk s.els) : FlatOk l := by
  intro v d w F hv hlen
  obtain ⟨p, c, rfl⟩ := hv.1.form
  have hn47 := hv.1.1.2
  have A : Hid (Two w w (.slice none 0 0) (.slice none 0 0) [] []) := hid ⟨World.ownsRow_nil _ _ _ _, World.ownsRow_nil _ _ _ _, Below.refl _ _, fun b hb => by simp [Value.ownBlock] at hb⟩
  replace hv := hid hv
  go_enter Try.func18, Try.ntmps18
  go_wp2_with fail
  go_loopw [6, 7, 16] (fun vo vd vi wr => ∃ (k : Nat) (p1 : Option Addr) (n1 c1 : Nat) (p2 : Option Addr) (n2 c2 : Nat) (L1 : List St) (L2 : List Int), k ≤ l.length ∧ vi = .int .i64 k ∧ vo = .slice p1 n1 c1 ∧ vd = .slice p2 n2 c2 ∧ Hid (Two w wr (.slice p1 n1 c1) (.slice p2 n2 c2) L1 L2 ∧ L1 = (flatL d (l.take k)).map (·.2) ∧ L2 = (flatL d (l.take k)).map (·.1))) (fun _ _ vi _ => l.length - (intOf vi).toNat)
  case atStart => exact ⟨0, _, _, _, _, _, _, [], [], Nat.zero_le _, rfl, rfl, rfl, hid ⟨A.out, by simp [flatL], by simp [flatL]⟩⟩
  case round =>
    obtain ⟨k, p1, n1, c1, p2, n2, c2, L1, L2, hk, rfl, rfl, rfl, hat⟩ := hrel
    clear A
    by_cases hlt : k < l.length
    · obtain ⟨s, hs⟩ : ∃ s, l[k]? = some s := ⟨_, List.getElem?_eq_getElem hlt⟩
      obtain ⟨g, cap, eg, hF, hgl, hrg⟩ := RowAt.elem St.len hv.out.1 hs
      obtain ⟨rfl, -, rfl⟩ := Value.slice.inj eg
      clear eg
      have hms := List.mem_of_getElem? hs
      have so := hid (hv.out.2 s hms)
      have rg := hid (rangeAt_kept hrg hat.out.1.bel)
      have one := hid so.out.hd.one
      have hk0 : (0 : Int) ≤ (k : Int) := Int.natCast_nonneg _
      have hk1 : (k : Int) < (l.length : Int) := by omega
      have ht2 := hid (flat_step d l k s hs)
      have ht1 := flatL_len d l k s hs
      have z1 : L1.length = (flatL d (l.take k)).length := by rw [hat.out.2.1]; simp
      have z2 : L2.length = (flatL d (l.take k)).length := by rw [hat.out.2.2]; simp
      have q1 : L1.length + (1 + ((flatL (wrap64 (d + 1)) s.body).length + (flatL (wrap64 (d + 1)) s.els).length)) ≤ 1000000 := by omega
      have q2 : L2.length + (1 + ((flatL (wrap64 (d + 1)) s.body).length + (flatL (wrap64 (d + 1)) s.els).length)) ≤ 1000000 := by omega
      obtain ⟨pb, cb, ebv⟩ := so.out.hd.2.2.2.2.2.1.form
      obtain ⟨pe, ce, eev⟩ := so.out.hd.2.2.2.2.2.2.form
      replace ebv := hid ebv
      replace eev := hid eev
      have T0 := hid hat.out.1
      have hL1 := hid hat.out.2.1
      have hL2 := hid hat.out.2.2
      have S5 : Hid (Side (wr.alloc (.cells s.cells.toArray 52)) (.slice p1 n1 c1) (.slice p2 n2 c2) wr.heap.size s.cells 52) := hid (T0.out.side s.cells 52)
      replace T0 := hid (T0.out.keep ((Below.refl _ _).alloc (Nat.le_refl _) (.cells s.cells.toArray 52)))
      clear hrg z1 z2 hat ht1
      go_upto_region 6 with (first
        | refine wl_load 52 _ rfl rfl g (k * 58) rfl s.cells rg.out s.agg ?_
        | refine wl_store_new 52 _ _ rfl rfl wr 52 _ rfl wr.heap.size rfl rfl s.cells rfl s.agg rfl one.out ?_)
      generalize hW1 : wr.alloc (.cells s.cells.toArray 52) = W1 at *
      clear hW1
      have S6 := hid (S5.out.keep ((Below.refl _ _).alloc (Nat.le_refl _) (.cells s.cells.toArray 52)))
      have T6 := hid (T0.out.keep ((Below.refl _ _).alloc (Nat.le_refl _) (.cells s.cells.toArray 52)))
      have R6 : Hid (RowAt (W1.alloc (.cells s.cells.toArray 52)) (fun _ => True) 58 (.slice (some ⟨W1.heap.size, 0, none⟩) 1 1) [s].length ([s].flatMap St.cells)) := hid (by simpa using RowAt.made W1 s.cells 52 (fun _ => True) trivial 58 rfl)
      have o6 := hid (sts_one (w := w) (F := F) (l := [s]) (fun x hx => by simp at hx; subst hx; exact so.out))
      go_upto_region 7 with (first
        | refine wl_load 52 _ rfl rfl wr.heap.size 0 rfl s.cells S5.out.box.range s.agg ?_
        | refine wl_slice1 35 52 _ 58 688 _ rfl rfl Try.underlying35 info52 (by omega) (by omega) s.cells rfl rfl ?_
        | (at_builtin; refine wl_two1 rfl _ _ rfl _ (.slice p2 n2 c2) rfl L1 L2 T6.out (.slice (some ⟨W1.heap.size, 0, none⟩) 1 1) rfl (fun _ => True) [s] R6.out o6.out (by simp; omega) ?_; intro p3 c3 w3 n3 L3 hL3 T3 g3; replace S6 := hid (S6.out.grew1 g3.out); clear g3))
      have S7 := hid (S6.out.keep ((Below.refl _ _).alloc (Nat.le_refl _) (.cells #[.int .i64 d] 3)))
      have T7 := hid (T3.out.keep ((Below.refl _ _).alloc (Nat.le_refl _) (.cells #[.int .i64 d] 3)))
      have R7 : Hid (RowAt (w3.alloc (.cells #[.int .i64 d] 3)) (fun _ => True) 1 (.slice (some ⟨w3.heap.size, 0, none⟩) 1 1) [d].length ([d].flatMap intC)) := hid (by simpa [intC] using RowAt.made w3 [.int .i64 d] 3 (fun _ => True) trivial 1 rfl)
      go_upto_region 8 with (at_builtin; refine wl_two2 rfl _ _ rfl (.slice p3 n3 c3) _ rfl L3 L2 T7.out (.slice (some ⟨w3.heap.size, 0, none⟩) 1 1) rfl (fun _ => True) [d] R7.out (by simp; omega) ?_; intro p4 c4 w4 n4 L4 hL4 T4 g4; replace S7 := hid (S7.out.grew2 g4.out); clear g4)
      have k1 : w4.cell? ⟨wr.heap.size, 54, none⟩ = some (.slice pb s.body.length cb) := by rw [← ebv.out]; exact S7.out.box.cell 54 rfl
      have k2 : w4.cell? ⟨wr.heap.size, 55, none⟩ = some (.slice pe s.els.length ce) := by rw [← eev.out]; exact S7.out.box.cell 55 rfl
      have S8 : Hid (Side (w4.alloc (.cells #[.slice pb s.body.length cb, .slice pe s.els.length ce] 35)) (.slice p3 n3 c3) (.slice p4 n4 c4) w4.heap.size [.slice pb s.body.length cb, .slice pe s.els.length ce] 35) := hid (T4.out.side [.slice pb s.body.length cb, .slice pe s.els.length ce] 35)
      have T8 := hid (T4.out.keep ((Below.refl _ _).alloc (Nat.le_refl _) (.cells #[.slice pb s.body.length cb, .slice pe s.els.length ce] 35)))
      have y1 : Hid (L3.length = L1.length + 1) := hid (by rw [hL3.out]; simp)
      have y2 : Hid (L4.length = L2.length + 1) := hid (by rw [hL4.out]; simp)
      clear S5 S6 T0 T6 R6 S7 T7 R7 T3 T4
      go_wp2_with fail
      go_loopw [6, 7, 34] (fun vo vd vi wx => ∃ (j : Nat) (p5 : Option Addr) (n5 c5 : Nat) (p6 : Option Addr) (n6 c6 : Nat) (L5 : List St) (L6 : List Int), j ≤ 2 ∧ vi = .int .i64 j ∧ vo = .slice p5 n5 c5 ∧ vd = .slice p6 n6 c6 ∧ Hid (Two w wx (.slice p5 n5 c5) (.slice p6 n6 c6) L5 L6 ∧ Side wx (.slice p5 n5 c5) (.slice p6 n6 c6) w4.heap.size [.slice pb s.body.length cb, .slice pe s.els.length ce] 35 ∧ L5 = L3 ++ (([s.body, s.els].take j).flatMap (flatL (wrap64 (d + 1)))).map (·.2) ∧ L6 = L4 ++ (([s.body, s.els].take j).flatMap (flatL (wrap64 (d + 1)))).map (·.1))) (fun _ _ vi _ => 2 - (intOf vi).toNat)
      case atStart => exact ⟨0, _, _, _, _, _, _, L3, L4, Nat.zero_le _, rfl, rfl, rfl, hid ⟨T8.out, S8.out, by simp, by simp⟩⟩
      case round =>
        obtain ⟨j, p5, n5, c5, p6, n6, c6, L5, L6, hj, rfl, rfl, rfl, hax⟩ := hrel
        rename World => wx
        clear T8 S8 k1 k2
        by_cases hj2 : j < 2
        · obtain ⟨x, px, cx, ex, xv, xok, xf⟩ : ∃ (x : List St) (px : Option Addr) (cx : Nat), [s.body, s.els][j]? = some x ∧ [Value.slice pb s.body.length cb, .slice pe s.els.length ce][j]? = some (.slice px x.length cx) ∧ stsOk w F (.slice px x.length cx) x ∧ FlatOk x := by
            have hb := (so.out.hd.2.2.2.2.2.1)
            rw [ebv.out] at hb
            have he := (so.out.hd.2.2.2.2.2.2)
            rw [eev.out] at he
            have hj' : j = 0 ∨ j = 1 := by omega
            rcases hj' with rfl | rfl
            · exact ⟨s.body, pb, cb, rfl, rfl, ⟨hb, so.out.bodies⟩, (ih s hms).1⟩
            · exact ⟨s.els, pe, ce, rfl, rfl, ⟨he, so.out.elses⟩, (ih s hms).2⟩
          have cx0 := hax.out.2.1.box.cell j xv
          have t1 := take_len (flatL (wrap64 (d + 1))) [s.body, s.els] j x ex
          have t2 := hid (take_flat (flatL (wrap64 (d + 1))) [s.body, s.els] j x ex)
          simp only [List.flatMap_cons, List.flatMap_nil, List.append_nil, List.length_append] at t1
          have l5 : L5.length = L3.length + (([s.body, s.els].take j).flatMap (flatL (wrap64 (d + 1)))).length := by rw [hax.out.2.2.1]; simp only [List.length_append, List.length_map]
          have l6 : L6.length = L4.length + (([s.body, s.els].take j).flatMap (flatL (wrap64 (d + 1)))).length := by rw [hax.out.2.2.2]; simp only [List.length_append, List.length_map]
          rw [y1.out] at l5
          rw [y2.out] at l6
          have fx : (flatL (wrap64 (d + 1)) x).length ≤ 1000000 := by omega
          have g5 : Hid (L5.length + ((flatL (wrap64 (d + 1)) x).map (·.2)).length ≤ 2000000) := hid (by rw [List.length_map]; omega)
          have g6 : Hid (L6.length + ((flatL (wrap64 (d + 1)) x).map (·.1)).length ≤ 2000000) := hid (by rw [List.length_map]; omega)
          have C := hid (xf (.slice px x.length cx) (wrap64 (d + 1)) wx F (xok.kept hax.out.1.bel) fx)
          have T9 := hid hax.out.1
          have S9 := hid hax.out.2.1
          have zA : Hid (∀ b, (Value.slice p5 n5 c5).ownBlock = some b → b < (World.heap wx).size) := hid (fun b hb => (own_lt hax.out.1.o1 hb).2)
          have hL5 := hid hax.out.2.2.1
          have hL6 := hid hax.out.2.2.2
          have ox := hid (sts_one (w := w) (F := F) (l := (flatL (wrap64 (d + 1)) x).map (·.2)) (fun y hy => by
            obtain ⟨z, hz, rfl⟩ := List.mem_map.1 hy
            exact flatL_ok _ xok.2 z hz))
          have hj0 : (0 : Int) ≤ (j : Int) := Int.natCast_nonneg _
          have hj1 : (j : Int) < 2 := by omega
          clear t1 l5 l6 hax xf xok xv ex
          have fl : Hid (((flatL (wrap64 (d + 1)) x).map (·.2)).length ≤ 1000000 ∧ ((flatL (wrap64 (d + 1)) x).map (·.1)).length ≤ 1000000) := hid (by simp only [List.length_map]; omega)
          clear fx
          go_wp2_with (first
            | (go_at_call 18
               refine C.out.mono ?_
               rintro r wy ⟨pa, na, ca, pd, nd, cd, rfl, hA⟩
               replace T9 := hid (T9.out.keep hA.bel)
               replace S9 := hid (S9.out.keep hA.bel)
               have R1 := hid (RowAt.of_owns (F := fun _ => True) hA.o1 (by have := fl.out.1; omega) (fun _ _ => trivial))
               have R2 := hid (RowAt.of_owns (F := fun b => (World.heap wx).size ≤ b) hA.o2 (by have := fl.out.2; omega) (fun b hb => (own_lt hA.o2 hb).1))
               clear C hA)
            | (at_builtin; refine wl_two1 rfl _ _ rfl _ (.slice p6 n6 c6) rfl L5 L6 T9.out _ rfl (fun _ => True) _ R1.out ox.out g5.out ?_; intro p7 c7 w7 n7 L7 hL7 T10 g7; replace S9 := hid (S9.out.grew1 g7.out); replace R2 := hid (R2.out.keep (w' := w7) (fun b hF hl => g7.out.by_.block b hl (fun e => by have := zA.out b e.symm; omega))); clear T9)
            | (at_builtin; refine wl_two2 rfl _ _ rfl (.slice p7 n7 c7) _ rfl L7 L6 T10.out _ rfl (fun b => (World.heap wx).size ≤ b) _ R2.out g6.out ?_; intro p8 c8 w8 n8 L8 hL8 T11 g8; replace S9 := hid (S9.out.grew2 g8.out); clear T10))
          go_roundw
          case rel => exact ⟨j + 1, p7, n7, c7, p8, n8, c8, L7, L8, by omega, by go_num, rfl, rfl, hid ⟨T11.out, S9.out, by rw [hL7.out, hL5.out, t2.out, List.map_append, List.append_assoc], by rw [hL8.out, hL6.out, t2.out, List.map_append, List.append_assoc]⟩⟩
          case measure => simp [intOf]; omega
        · have hj3 : j = 2 := by omega
          subst hj3
          have e5 : Hid (L5 = (flatL d (l.take (k + 1))).map (·.2)) := hid (by rw [hax.out.2.2.1, hL3.out, hL1.out, ht2.out]; simp)
          have e6 : Hid (L6 = (flatL d (l.take (k + 1))).map (·.1)) := hid (by rw [hax.out.2.2.2, hL4.out, hL2.out, ht2.out]; simp)
          go_wp2_with fail
          go_roundw
          case rel => exact ⟨k + 1, p5, n5, c5, p6, n6, c6, L5, L6, by omega, by go_num, rfl, rfl, hid ⟨hax.out.1, e5.out, e6.out⟩⟩
          case measure => simp [intOf]; omega
    · have hkl : l.take k = l := List.take_of_length_le (by omega)
      rw [hkl] at hat
      go_wp2_with fail
      go_ret2
      exact ⟨_, _, _, _, _, _, rfl, by have h := hat.out; rw [← h.2.1, ← h.2.2]; exact h.1⟩

theorem flatRows_any (s : St) : FlatOk s.body ∧ FlatOk s.els := by
  induction s using St.ind with
  | h s ih1 ih2 => exact ⟨flatW_step s.body (fun k hk => ih1 k hk), flatW_step s.els (fun k hk => ih2 k hk)⟩
theorem flat_any (l : List St) : FlatOk l := flatW_step l (fun s _ => flatRows_any s)
end Go.Proofs.Ytfdfeiempeciiaa
