/- The contract of the maker's right. -/
import Derived.Test.YtfdfeiempeciiaaPlace
namespace Go.Proofs.Ytfdfeiempeciiaa
open Go.ChangeShapes Go.WideShapes Go.ChangeAt Go.RowKit
set_option linter.unusedVariables false

set_option maxRecDepth 100000 in
set_option maxHeartbeats 4000000 in
theorem right_load (w : World) (M : Nat) (v : Value) (N : List Int) (i l : Nat) (h : Mk w M v N i l) (ho : pk N 6 i = 0) :
    Calls Try.prog 52 #[.pointer (some ⟨M, 0, none⟩)] w fun e w' => ∃ r, e = .returned r ∧ RtOut w w' r ({ Rt.zero with op := 2, place := (placeM N (nx N i)).1 }, (placeM N (nx N i)).2).1 ∧ Made w M v N l ({ Rt.zero with op := 2, place := (placeM N (nx N i)).1 }, (placeM N (nx N i)).2).2 w' := by
  have hlt := h.lt
  have C := fun o => pick_any (w.alloc o) M v N i l 6 (h.alloc o) (by omega) (by omega)
  have hk0 := pk_lt N 6 i (by omega)
  rw [ho] at C
  have V := hid (VarAt.new w Rt.zero.cells 50)
  clear h
  go_enter Try.func52, Try.ntmps52
  go_wp2_with fail
  refine (C _).mono ?_
  rintro e w1 ⟨rfl, hm⟩
  replace V := hid (V.out.touch hm.1 (by omega))
  replace hm := hid hm.alloc
  clear C
  have zV := V.out.lt
  have C := fun W hm => place_any W M v N (nx N i) l hm
  go_wp2_with fail
  refine (C _ hm.out.2).mono ?_
  rintro e w2 ⟨r, rfl, ⟨x, rfl, hx, hb⟩, hm2⟩
  replace hx := hid (Pl.ok.mono (G := fun g => w.heap.size < g) hx (fun g h1 h2 => by omega))
  replace V := hid (V.out.touch hm2.1 (by omega))
  replace hm := hid (made_trans hm.out hm2)
  clear C hm2
  obtain ⟨p1, p2, p3, ⟨x1, x2, x3, x4, x5, x6, x7, x8, x9, x10⟩, p5, p6⟩ := x
  have x1c := hid (hx.out.2.row.one)
  simp only [Pl.val, Pl.cells, Ex.cells, List.cons_append, List.nil_append]
  go_wp2_with (refine wl_store_part 50 _ _ rfl rfl w.heap.size 0 rfl ({ Rt.zero with op := 2, place := ⟨p1, p2, p3, ⟨x1, x2, x3, x4, x5, x6, x7, x8, x9, x10⟩, p5, p6⟩ } : Rt).cells rfl (Rt.agg _) (rt_one rfl x1c.out) _ _ V.out (by rw [Rt.len, Rt.len]; omega) ?_; intro w9 V3 t3; replace V3 := hid V3; replace t3 := hid t3)
  rw [Rt.splice_all] at V3
  refine bodyPost_ret (results_cell_row rfl _ _ w.heap.size _ _ _ _ rfl V3.out Try.underlying50 rfl (by kernel_rfl)) rfl ?_
  exact ⟨_, rfl, ⟨{ Rt.zero with op := 2, place := ⟨p1, p2, p3, ⟨x1, x2, x3, x4, x5, x6, x7, x8, x9, x10⟩, p5, p6⟩ }, rfl, ⟨by simp [I64], Ex.zero_ok _ _, Pl.ok.mono (Pl.ok.keep hx.out (fun g hg hl => t3.out.block g hl (by omega))) (fun g h1 h2 => by omega)⟩, by simp [Rt.bare, Rt.zero, hb, Ex.zero_bare], empty_ne⟩, hm.out.res t3.out (Nat.le_refl _) hlt⟩

set_option maxRecDepth 100000 in
set_option maxHeartbeats 4000000 in
theorem right_new (w : World) (M : Nat) (v : Value) (N : List Int) (i l : Nat) (h : Mk w M v N i l) (ho : pk N 6 i = 1) :
    Calls Try.prog 52 #[.pointer (some ⟨M, 0, none⟩)] w fun e w' => ∃ r, e = .returned r ∧ RtOut w w' r ({ Rt.zero with op := 3, nm := nmV (pk N 8 (nx N i)) }, nx N (nx N i)).1 ∧ Made w M v N l ({ Rt.zero with op := 3, nm := nmV (pk N 8 (nx N i)) }, nx N (nx N i)).2 w' := by
  have hlt := h.lt
  have C := fun o => pick_any (w.alloc o) M v N i l 6 (h.alloc o) (by omega) (by omega)
  have hk0 := pk_lt N 6 i (by omega)
  rw [ho] at C
  have V := hid (VarAt.new w Rt.zero.cells 50)
  clear h
  go_enter Try.func52, Try.ntmps52
  go_wp2_with fail
  refine (C _).mono ?_
  rintro e w1 ⟨rfl, hm⟩
  replace V := hid (V.out.touch hm.1 (by omega))
  replace hm := hid hm.alloc
  clear C
  have C := fun W hm => name_any W M v N (nx N i) l hm
  go_wp2_with fail
  refine (C _ hm.out.2).mono ?_
  rintro e w2 ⟨rfl, hm2⟩
  replace V := hid (V.out.touch hm2.1 (by omega))
  replace hm := hid (made_trans hm.out hm2)
  clear C hm2
  go_wp2_with (refine wl_store_part 50 _ _ rfl rfl w.heap.size 0 rfl ({ Rt.zero with op := 3, nm := nmV (pk N 8 (nx N i)) } : Rt).cells rfl (Rt.agg _) (rt_one rfl rfl) _ _ V.out (by rw [Rt.len, Rt.len]; omega) ?_; intro w9 V3 t3; replace V3 := hid V3; replace t3 := hid t3)
  rw [Rt.splice_all] at V3
  refine bodyPost_ret (results_cell_row rfl _ _ w.heap.size _ _ _ _ rfl V3.out Try.underlying50 rfl (by kernel_rfl)) rfl ?_
  exact ⟨_, rfl, ⟨{ Rt.zero with op := 3, nm := nmV (pk N 8 (nx N i)) }, rfl, ⟨by simp [I64], Ex.zero_ok _ _, Pl.zero_ok _ _⟩, by simp [Rt.bare, Rt.zero, Ex.zero_bare, Pl.zero_bare], empty_ne⟩, hm.out.res t3.out (Nat.le_refl _) hlt⟩

set_option maxRecDepth 100000 in
set_option maxHeartbeats 4000000 in
theorem right_size (w : World) (M : Nat) (v : Value) (N : List Int) (i l : Nat) (h : Mk w M v N i l) (ho : pk N 6 i = 3) :
    Calls Try.prog 52 #[.pointer (some ⟨M, 0, none⟩)] w fun e w' => ∃ r, e = .returned r ∧ RtOut w w' r ({ Rt.zero with op := 5, nm := nmV (pk N 8 (nx N i)) }, nx N (nx N i)).1 ∧ Made w M v N l ({ Rt.zero with op := 5, nm := nmV (pk N 8 (nx N i)) }, nx N (nx N i)).2 w' := by
  have hlt := h.lt
  have C := fun o => pick_any (w.alloc o) M v N i l 6 (h.alloc o) (by omega) (by omega)
  have hk0 := pk_lt N 6 i (by omega)
  rw [ho] at C
  have V := hid (VarAt.new w Rt.zero.cells 50)
  clear h
  go_enter Try.func52, Try.ntmps52
  go_wp2_with fail
  refine (C _).mono ?_
  rintro e w1 ⟨rfl, hm⟩
  replace V := hid (V.out.touch hm.1 (by omega))
  replace hm := hid hm.alloc
  clear C
  have C := fun W hm => name_any W M v N (nx N i) l hm
  go_wp2_with fail
  refine (C _ hm.out.2).mono ?_
  rintro e w2 ⟨rfl, hm2⟩
  replace V := hid (V.out.touch hm2.1 (by omega))
  replace hm := hid (made_trans hm.out hm2)
  clear C hm2
  go_wp2_with (refine wl_store_part 50 _ _ rfl rfl w.heap.size 0 rfl ({ Rt.zero with op := 5, nm := nmV (pk N 8 (nx N i)) } : Rt).cells rfl (Rt.agg _) (rt_one rfl rfl) _ _ V.out (by rw [Rt.len, Rt.len]; omega) ?_; intro w9 V3 t3; replace V3 := hid V3; replace t3 := hid t3)
  rw [Rt.splice_all] at V3
  refine bodyPost_ret (results_cell_row rfl _ _ w.heap.size _ _ _ _ rfl V3.out Try.underlying50 rfl (by kernel_rfl)) rfl ?_
  exact ⟨_, rfl, ⟨{ Rt.zero with op := 5, nm := nmV (pk N 8 (nx N i)) }, rfl, ⟨by simp [I64], Ex.zero_ok _ _, Pl.zero_ok _ _⟩, by simp [Rt.bare, Rt.zero, Ex.zero_bare, Pl.zero_bare], empty_ne⟩, hm.out.res t3.out (Nat.le_refl _) hlt⟩

set_option maxRecDepth 100000 in
set_option maxHeartbeats 4000000 in
theorem right_ints (w : World) (M : Nat) (v : Value) (N : List Int) (i l : Nat) (h : Mk w M v N i l) (ho : pk N 6 i = 2) :
    Calls Try.prog 52 #[.pointer (some ⟨M, 0, none⟩)] w fun e w' => ∃ r, e = .returned r ∧ RtOut w w' r ({ Rt.zero with op := 4, e := (exprM N 2 (nx N i)).1 }, (exprM N 2 (nx N i)).2).1 ∧ Made w M v N l ({ Rt.zero with op := 4, e := (exprM N 2 (nx N i)).1 }, (exprM N 2 (nx N i)).2).2 w' := by
  have hlt := h.lt
  have C := fun o => pick_any (w.alloc o) M v N i l 6 (h.alloc o) (by omega) (by omega)
  have hk0 := pk_lt N 6 i (by omega)
  rw [ho] at C
  have V := hid (VarAt.new w Rt.zero.cells 50)
  clear h
  go_enter Try.func52, Try.ntmps52
  go_wp2_with fail
  refine (C _).mono ?_
  rintro e w1 ⟨rfl, hm⟩
  replace V := hid (V.out.touch hm.1 (by omega))
  replace hm := hid hm.alloc
  clear C
  have zV := V.out.lt
  have C := fun W hm => expr_any M v N l 2 W (nx N i) (by omega) hm
  go_wp2_with fail
  refine (C _ hm.out.2).mono ?_
  rintro e w2 ⟨r, rfl, ⟨x, rfl, hx, hb, hz⟩, hm2⟩
  replace hx := hid (hx.mono (G := fun g => w.heap.size < g) (fun g h1 h2 => by omega))
  replace V := hid (V.out.touch hm2.1 (by omega))
  replace hm := hid (made_trans hm.out hm2)
  clear C hm2
  obtain ⟨x1, x2, x3, x4, x5, x6, x7, x8, x9, x10⟩ := x
  have x1c := hid (hx.out.row.one)
  simp only [Ex.val, Ex.cells]
  go_wp2_with (refine wl_store_part 50 _ _ rfl rfl w.heap.size 0 rfl ({ Rt.zero with op := 4, e := ⟨x1, x2, x3, x4, x5, x6, x7, x8, x9, x10⟩ } : Rt).cells rfl (Rt.agg _) (rt_one x1c.out rfl) _ _ V.out (by rw [Rt.len, Rt.len]; omega) ?_; intro w9 V3 t3; replace V3 := hid V3; replace t3 := hid t3)
  rw [Rt.splice_all] at V3
  refine bodyPost_ret (results_cell_row rfl _ _ w.heap.size _ _ _ _ rfl V3.out Try.underlying50 rfl (by kernel_rfl)) rfl ?_
  exact ⟨_, rfl, ⟨{ Rt.zero with op := 4, e := ⟨x1, x2, x3, x4, x5, x6, x7, x8, x9, x10⟩ }, rfl, ⟨by simp [I64], (hx.out.keep (fun g hg hl => t3.out.block g hl (by omega))).mono (fun g h1 h2 => by omega), Pl.zero_ok _ _⟩, by simp [Rt.bare, Rt.zero, hb, Pl.zero_bare], hz⟩, hm.out.res t3.out (Nat.le_refl _) hlt⟩

set_option maxRecDepth 100000 in
set_option maxHeartbeats 4000000 in
theorem right_calc (w : World) (M : Nat) (v : Value) (N : List Int) (i l : Nat) (h : Mk w M v N i l) (ho : 4 ≤ pk N 6 i) :
    Calls Try.prog 52 #[.pointer (some ⟨M, 0, none⟩)] w fun e w' => ∃ r, e = .returned r ∧ RtOut w w' r ({ Rt.zero with op := 1, e := (exprM N 3 (nx N i)).1 }, (exprM N 3 (nx N i)).2).1 ∧ Made w M v N l ({ Rt.zero with op := 1, e := (exprM N 3 (nx N i)).1 }, (exprM N 3 (nx N i)).2).2 w' := by
  have hlt := h.lt
  have C := fun o => pick_any (w.alloc o) M v N i l 6 (h.alloc o) (by omega) (by omega)
  have hk0 := pk_lt N 6 i (by omega)
  generalize pk N 6 i = k0 at *
  have V := hid (VarAt.new w Rt.zero.cells 50)
  clear h
  go_enter Try.func52, Try.ntmps52
  go_wp2_with fail
  refine (C _).mono ?_
  rintro e w1 ⟨rfl, hm⟩
  replace V := hid (V.out.touch hm.1 (by omega))
  replace hm := hid hm.alloc
  clear C
  have zV := V.out.lt
  have C := fun W hm => expr_any M v N l 3 W (nx N i) (by omega) hm
  go_wp2_with fail
  refine (C _ hm.out.2).mono ?_
  rintro e w2 ⟨r, rfl, ⟨x, rfl, hx, hb, hz⟩, hm2⟩
  replace hx := hid (hx.mono (G := fun g => w.heap.size < g) (fun g h1 h2 => by omega))
  replace V := hid (V.out.touch hm2.1 (by omega))
  replace hm := hid (made_trans hm.out hm2)
  clear C hm2
  obtain ⟨x1, x2, x3, x4, x5, x6, x7, x8, x9, x10⟩ := x
  have x1c := hid (hx.out.row.one)
  simp only [Ex.val, Ex.cells]
  go_wp2_with (refine wl_store_part 50 _ _ rfl rfl w.heap.size 0 rfl ({ Rt.zero with op := 1, e := ⟨x1, x2, x3, x4, x5, x6, x7, x8, x9, x10⟩ } : Rt).cells rfl (Rt.agg _) (rt_one x1c.out rfl) _ _ V.out (by rw [Rt.len, Rt.len]; omega) ?_; intro w9 V3 t3; replace V3 := hid V3; replace t3 := hid t3)
  rw [Rt.splice_all] at V3
  refine bodyPost_ret (results_cell_row rfl _ _ w.heap.size _ _ _ _ rfl V3.out Try.underlying50 rfl (by kernel_rfl)) rfl ?_
  exact ⟨_, rfl, ⟨{ Rt.zero with op := 1, e := ⟨x1, x2, x3, x4, x5, x6, x7, x8, x9, x10⟩ }, rfl, ⟨by simp [I64], (hx.out.keep (fun g hg hl => t3.out.block g hl (by omega))).mono (fun g h1 h2 => by omega), Pl.zero_ok _ _⟩, by simp [Rt.bare, Rt.zero, hb, Pl.zero_bare], hz⟩, hm.out.res t3.out (Nat.le_refl _) hlt⟩

theorem right_any (w : World) (M : Nat) (v : Value) (N : List Int) (i l : Nat) (h : Mk w M v N i l) :
    Calls Try.prog 52 #[.pointer (some ⟨M, 0, none⟩)] w fun e w' => ∃ r, e = .returned r ∧ RtOut w w' r (rightM N i).1 ∧ Made w M v N l (rightM N i).2 w' := by
  have hk := pk_lt N 6 i (by omega)
  have : pk N 6 i = 0 ∨ pk N 6 i = 1 ∨ pk N 6 i = 2 ∨ pk N 6 i = 3 ∨ 4 ≤ pk N 6 i := by omega
  rcases this with e | e | e | e | e
  · rw [show rightM N i = _ by rw [rightM, if_pos e]]
    exact right_load w M v N i l h e
  · rw [show rightM N i = _ by rw [rightM, if_neg (by omega), if_pos e]]
    exact right_new w M v N i l h e
  · rw [show rightM N i = _ by rw [rightM, if_neg (by omega), if_neg (by omega), if_pos e]]
    exact right_ints w M v N i l h e
  · rw [show rightM N i = _ by rw [rightM, if_neg (by omega), if_neg (by omega), if_neg (by omega), if_pos e]]
    exact right_size w M v N i l h e
  · rw [show rightM N i = _ by rw [rightM, if_neg (by omega), if_neg (by omega), if_neg (by omega), if_neg (by omega)]]
    exact right_calc w M v N i l h e
end Go.Proofs.Ytfdfeiempeciiaa
