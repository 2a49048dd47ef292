/- The contracts of the maker's place and right. -/
import Derived.Test.YtfdfeiempeciiaaExpr2
namespace Go.Proofs.Ytfdfeiempeciiaa
open Go.ChangeShapes Go.WideShapes Go.ChangeAt Go.RowKit
set_option linter.unusedVariables false

def PlOut (w w' : World) (r : Value) (b : Pl) : Prop := ∃ e : Pl, r = e.val ∧ e.ok w' (fun g => w.heap.size ≤ g) ∧ e.bare = b
def RtOut (w w' : World) (r : Value) (b : Rt) : Prop := ∃ e : Rt, r = e.val ∧ e.ok w' (fun g => w.heap.size ≤ g) ∧ e.bare = b ∧ e.e.tr.toList ≠ [122]
theorem Pl.splice_all (e z : Pl) : splice z.cells 0 e.cells = e.cells := splice_full _ _ rfl
theorem Rt.splice_all (e z : Rt) : splice z.cells 0 e.cells = e.cells := splice_full _ _ (by rw [Rt.len, Rt.len])

theorem pl_one {p : Pl} (h : p.index.kv.oneCell' = true) : ∀ u ∈ p.cells, u.oneCell' = true := by
  intro u hu
  simp only [Pl.cells, Ex.cells, List.mem_append, List.mem_cons, List.not_mem_nil, or_false] at hu
  rcases hu with (rfl | rfl | rfl) | (rfl | rfl | rfl | rfl | rfl | rfl | rfl | rfl | rfl) | rfl | rfl
  all_goals first | rfl | exact h
theorem rt_one {p : Rt} (h : p.e.kv.oneCell' = true) (h' : p.place.index.kv.oneCell' = true) : ∀ u ∈ p.cells, u.oneCell' = true := by
  intro u hu
  simp only [Rt.cells, Ex.cells, List.mem_append, List.mem_cons, List.not_mem_nil, or_false] at hu
  rcases hu with rfl | (rfl | rfl | rfl | rfl | rfl | rfl | rfl | rfl | rfl) | hu | rfl | rfl | rfl
  all_goals first | rfl | exact h | exact pl_one h' u hu

set_option maxRecDepth 100000 in
set_option maxHeartbeats 4000000 in
theorem place_glob (w : World) (M : Nat) (v : Value) (N : List Int) (i l : Nat) (h : Mk w M v N i l) (ho : pk N 3 i = 0) :
    Calls Try.prog 53 #[.pointer (some ⟨M, 0, none⟩)] w fun e w' => ∃ r, e = .returned r ∧ PlOut w w' r ({ Pl.zero with op := 1, base := nmV (pk N 8 (nx N i)) }, nx N (nx N i)).1 ∧ Made w M v N l ({ Pl.zero with op := 1, base := nmV (pk N 8 (nx N i)) }, nx N (nx N i)).2 w' := by
  have hlt := h.lt
  have C := fun o => pick_any (w.alloc o) M v N i l 3 (h.alloc o) (by omega) (by omega)
  have hk0 := pk_lt N 3 i (by omega)
  rw [ho] at C
  have V := hid (VarAt.new w Pl.zero.cells 48)
  clear h
  go_enter Try.func53, Try.ntmps53
  go_wp2_with fail
  refine (C _).mono ?_
  rintro e w1 ⟨rfl, hm⟩
  replace V := hid (V.out.touch hm.1 (by omega))
  replace hm := hid hm.alloc
  clear C
  have C := fun W hm => name_any W M v N (nx N i) l hm
  go_wp2_with fail
  refine (C _ hm.out.2).mono ?_
  rintro e w2 ⟨rfl, hm2⟩
  replace V := hid (V.out.touch hm2.1 (by omega))
  replace hm := hid (made_trans hm.out hm2)
  clear C hm2
  go_wp2_with (refine wl_store_part 48 _ _ rfl rfl w.heap.size 0 rfl ({ Pl.zero with op := 1, base := nmV (pk N 8 (nx N i)) } : Pl).cells rfl (Pl.agg _) (pl_one rfl) _ _ V.out (by rw [Pl.len, Pl.len]; omega) ?_; intro w9 V3 t3; replace V3 := hid V3; replace t3 := hid t3)
  rw [Pl.splice_all] at V3
  refine bodyPost_ret (results_cell_row rfl _ _ w.heap.size _ _ _ _ rfl V3.out Try.underlying48 rfl (by kernel_rfl)) rfl ?_
  exact ⟨_, rfl, ⟨{ Pl.zero with op := 1, base := nmV (pk N 8 (nx N i)) }, rfl, ⟨by simp [I64], Ex.zero_ok _ _⟩, by simp [Pl.bare, Pl.zero, Ex.zero_bare]⟩, hm.out.res t3.out (Nat.le_refl _) hlt⟩

set_option maxRecDepth 100000 in
set_option maxHeartbeats 4000000 in
theorem place_field (w : World) (M : Nat) (v : Value) (N : List Int) (i l : Nat) (h : Mk w M v N i l) (ho : pk N 3 i = 1) :
    Calls Try.prog 53 #[.pointer (some ⟨M, 0, none⟩)] w fun e w' => ∃ r, e = .returned r ∧ PlOut w w' r ({ Pl.zero with op := 2, base := nmV (pk N 8 (nx N i)), field := nmV (pk N 8 (nx N (nx N i))) }, nx N (nx N (nx N i))).1 ∧ Made w M v N l ({ Pl.zero with op := 2, base := nmV (pk N 8 (nx N i)), field := nmV (pk N 8 (nx N (nx N i))) }, nx N (nx N (nx N i))).2 w' := by
  have hlt := h.lt
  have C := fun o => pick_any (w.alloc o) M v N i l 3 (h.alloc o) (by omega) (by omega)
  have hk0 := pk_lt N 3 i (by omega)
  rw [ho] at C
  have V := hid (VarAt.new w Pl.zero.cells 48)
  clear h
  go_enter Try.func53, Try.ntmps53
  go_wp2_with fail
  refine (C _).mono ?_
  rintro e w1 ⟨rfl, hm⟩
  replace V := hid (V.out.touch hm.1 (by omega))
  replace hm := hid hm.alloc
  clear C
  have C := fun W hm => name_any W M v N (nx N i) l hm
  go_wp2_with fail
  refine (C _ hm.out.2).mono ?_
  rintro e w2 ⟨rfl, hm2⟩
  replace V := hid (V.out.touch hm2.1 (by omega))
  replace hm := hid (made_trans hm.out hm2)
  clear C hm2
  have C := fun W hm => name_any W M v N (nx N (nx N i)) l hm
  go_wp2_with fail
  refine (C _ hm.out.2).mono ?_
  rintro e w3 ⟨rfl, hm2⟩
  replace V := hid (V.out.touch hm2.1 (by omega))
  replace hm := hid (made_trans hm.out hm2)
  clear C hm2
  go_wp2_with (refine wl_store_part 48 _ _ rfl rfl w.heap.size 0 rfl ({ Pl.zero with op := 2, base := nmV (pk N 8 (nx N i)), field := nmV (pk N 8 (nx N (nx N i))) } : Pl).cells rfl (Pl.agg _) (pl_one rfl) _ _ V.out (by rw [Pl.len, Pl.len]; omega) ?_; intro w9 V3 t3; replace V3 := hid V3; replace t3 := hid t3)
  rw [Pl.splice_all] at V3
  refine bodyPost_ret (results_cell_row rfl _ _ w.heap.size _ _ _ _ rfl V3.out Try.underlying48 rfl (by kernel_rfl)) rfl ?_
  exact ⟨_, rfl, ⟨{ Pl.zero with op := 2, base := nmV (pk N 8 (nx N i)), field := nmV (pk N 8 (nx N (nx N i))) }, rfl, ⟨by simp [I64], Ex.zero_ok _ _⟩, by simp [Pl.bare, Pl.zero, Ex.zero_bare]⟩, hm.out.res t3.out (Nat.le_refl _) hlt⟩

set_option maxRecDepth 100000 in
set_option maxHeartbeats 4000000 in
theorem place_elem (w : World) (M : Nat) (v : Value) (N : List Int) (i l : Nat) (h : Mk w M v N i l) (ho : pk N 3 i = 2) :
    Calls Try.prog 53 #[.pointer (some ⟨M, 0, none⟩)] w fun e w' => ∃ r, e = .returned r ∧ PlOut w w' r ({ Pl.zero with op := 3, base := nmV (pk N 8 (nx N i)), index := (exprM N 2 (nx N (nx N i))).1 }, (exprM N 2 (nx N (nx N i))).2).1 ∧ Made w M v N l ({ Pl.zero with op := 3, base := nmV (pk N 8 (nx N i)), index := (exprM N 2 (nx N (nx N i))).1 }, (exprM N 2 (nx N (nx N i))).2).2 w' := by
  have hlt := h.lt
  have C := fun o => pick_any (w.alloc o) M v N i l 3 (h.alloc o) (by omega) (by omega)
  have hk0 := pk_lt N 3 i (by omega)
  rw [ho] at C
  have V := hid (VarAt.new w Pl.zero.cells 48)
  clear h
  go_enter Try.func53, Try.ntmps53
  go_wp2_with fail
  refine (C _).mono ?_
  rintro e w1 ⟨rfl, hm⟩
  replace V := hid (V.out.touch hm.1 (by omega))
  replace hm := hid hm.alloc
  clear C
  have C := fun W hm => name_any W M v N (nx N i) l hm
  go_wp2_with fail
  refine (C _ hm.out.2).mono ?_
  rintro e w2 ⟨rfl, hm2⟩
  replace V := hid (V.out.touch hm2.1 (by omega))
  replace hm := hid (made_trans hm.out hm2)
  clear C hm2
  have zV := V.out.lt
  have C := fun W hm => expr_any M v N l 2 W (nx N (nx N i)) (by omega) hm
  go_wp2_with fail
  refine (C _ hm.out.2).mono ?_
  rintro e w3 ⟨r, rfl, ⟨x, rfl, hx, hb, hz⟩, hm2⟩
  replace hx := hid (hx.mono (G := fun g => w.heap.size < g) (fun g h1 h2 => by omega))
  replace V := hid (V.out.touch hm2.1 (by omega))
  replace hm := hid (made_trans hm.out hm2)
  clear C hm2
  obtain ⟨x1, x2, x3, x4, x5, x6, x7, x8, x9, x10⟩ := x
  have x1c := hid (hx.out.row.one)
  simp only [Ex.val, Ex.cells]
  go_wp2_with (refine wl_store_part 48 _ _ rfl rfl w.heap.size 0 rfl ({ Pl.zero with op := 3, base := nmV (pk N 8 (nx N i)), index := ⟨x1, x2, x3, x4, x5, x6, x7, x8, x9, x10⟩ } : Pl).cells rfl (Pl.agg _) (pl_one x1c.out) _ _ V.out (by rw [Pl.len, Pl.len]; omega) ?_; intro w9 V3 t3; replace V3 := hid V3; replace t3 := hid t3)
  rw [Pl.splice_all] at V3
  refine bodyPost_ret (results_cell_row rfl _ _ w.heap.size _ _ _ _ rfl V3.out Try.underlying48 rfl (by kernel_rfl)) rfl ?_
  exact ⟨_, rfl, ⟨{ Pl.zero with op := 3, base := nmV (pk N 8 (nx N i)), index := ⟨x1, x2, x3, x4, x5, x6, x7, x8, x9, x10⟩ }, rfl, ⟨by simp [I64], (hx.out.keep (fun g hg hl => t3.out.block g hl (by omega))).mono (fun g h1 h2 => by omega)⟩, by simp [Pl.bare, Pl.zero, hb]⟩, hm.out.res t3.out (Nat.le_refl _) hlt⟩

theorem place_any (w : World) (M : Nat) (v : Value) (N : List Int) (i l : Nat) (h : Mk w M v N i l) :
    Calls Try.prog 53 #[.pointer (some ⟨M, 0, none⟩)] w fun e w' => ∃ r, e = .returned r ∧ PlOut w w' r (placeM N i).1 ∧ Made w M v N l (placeM N i).2 w' := by
  have hk := pk_lt N 3 i (by omega)
  have : pk N 3 i = 0 ∨ pk N 3 i = 1 ∨ pk N 3 i = 2 := by omega
  rcases this with e | e | e
  · rw [show placeM N i = _ by rw [placeM, if_pos e]]
    exact place_glob w M v N i l h e
  · rw [show placeM N i = _ by rw [placeM, if_neg (by omega), if_pos e]]
    exact place_field w M v N i l h e
  · rw [show placeM N i = _ by rw [placeM, if_neg (by omega), if_neg (by omega)]]
    exact place_elem w M v N i l h e
end Go.Proofs.Ytfdfeiempeciiaa
