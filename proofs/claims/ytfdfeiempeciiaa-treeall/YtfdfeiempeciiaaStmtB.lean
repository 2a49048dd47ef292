/- The maker's stmt: Set, Print. -/
import Derived.Test.YtfdfeiempeciiaaStmtBase
namespace Go.Proofs.Ytfdfeiempeciiaa
open Go.ChangeShapes Go.WideShapes Go.ChangeAt Go.RowKit
set_option linter.unusedVariables false

set_option maxRecDepth 100000 in
set_option maxHeartbeats 4000000 in
theorem stmt_set (w : World) (M : Nat) (v : Value) (N : List Int) (i l d : Nat) (hd : d ≤ 3) (h : Mk w M v N i l) (ho : pk N 11 i = 3) :
    Calls Try.prog 45 #[.pointer (some ⟨M, 0, none⟩), .int .i64 d] w fun e w' => ∃ r, e = .returned r ∧ StOut w w' r { St.zero with op := 4, place := (placeM N (nx N i)).1, e := (exprM N 2 (placeM N (nx N i)).2).1 } ∧ Made w M v N (l) ((exprM N 2 (placeM N (nx N i)).2).2) w' := by
  have hlt := h.lt
  have C := fun o => pick_any (w.alloc o) M v N i l 11 (h.alloc o) (by omega) (by omega)
  rw [ho] at C
  have V := hid (VarAt.new w St.zero.cells 52)
  clear h
  by_cases hd0 : d = 0
  all_goals
    try subst hd0
    go_enter Try.func45, Try.ntmps45
    go_wp2_with fail
    refine (C _).mono ?_
    rintro e w1 ⟨rfl, hm⟩
    replace V := hid (V.out.touch hm.1 (by omega))
    replace hm := hid hm.alloc
    clear C
    have zV := V.out.lt
    have A : Hid (SAt w (w1.alloc (.cells ({ St.zero with op := 4 } : St).cells.toArray 52)) M v N l (nx N i) w1.heap.size { St.zero with op := 4 }) := hid ⟨hm.out.new _, V.out.kept ((Below.refl _ _).alloc (Nat.le_refl _) _), VarAt.new _ _ _, zV, hlt⟩
    have offS : Hid (∀ u ∈ ({ St.zero with op := 4 } : St).cells, u.oneCell' = true) := hid (st_one rfl rfl rfl rfl rfl rfl rfl)
    clear V hm
    have C := fun W hm => place_any W M v N (nx N i) l hm
    go_wp2_with (refine wl_store_new 52 _ _ rfl rfl w1 52 _ rfl w1.heap.size rfl rfl ({ St.zero with op := 4 } : St).cells rfl (St.agg _) rfl offS.out ?_)
    have zA := A.out.var.lt
    refine (C _ A.out.made.2).mono ?_
    rintro e w2 ⟨r, rfl, ⟨xp, rfl, hxp, bxp⟩, hm⟩
    replace hxp := hid (Pl.ok.mono hxp (G := fun g => w1.heap.size < g) (fun g h1 h2 => by omega))
    have oxp := hid (hxp.out.2.row.one)
    replace bxp := hid bxp
    replace A := hid (A.out.call hm)
    clear C hm zA
    unfold Pl.val
    have C := fun W hm => expr_any M v N l 2 W ((placeM N (nx N i)).2) (by omega) hm
    go_wp2_with ((refine wl_store_part 48 _ _ rfl rfl w1.heap.size 29 rfl xp.cells rfl xp.agg (pl_one oxp.out) _ _ A.out.var (by rw [St.len, Pl.len]; omega) ?_; intro w' hv' t'; rw [St.set_place] at hv'; replace A := hid (A.out.store hv' t'); replace hxp := hid (Pl.ok.keep hxp.out (t'.above (S := w1.heap.size) (by intro g hg; omega))); clear hv' t'))
    have zA := A.out.var.lt
    refine (C _ A.out.made.2).mono ?_
    rintro e w3 ⟨r, rfl, ⟨xe, rfl, hxe, bxe, hz⟩, hm⟩
    replace hxp := hid (Pl.ok.keep hxp.out (hm.1.above (S := w1.heap.size) (by intro g hg; omega)))
    replace hxe := hid (hxe.mono (G := fun g => w1.heap.size < g) (fun g h1 h2 => by omega))
    have oxe := hid (hxe.out.row.one)
    replace bxe := hid bxe
    replace A := hid (A.out.call hm)
    clear C hm zA
    unfold Ex.val
    go_wp2_with (first | (refine wl_store_part 46 _ _ rfl rfl w1.heap.size 43 rfl xe.cells rfl xe.agg (ex_one oxe.out) _ _ A.out.var (by rw [St.len, Ex.len]; omega) ?_; intro w' hv' t'; rw [St.set_e] at hv'; replace A := hid (A.out.store hv' t'); replace hxp := hid (Pl.ok.keep hxp.out (t'.above (S := w1.heap.size) (by intro g hg; omega))); replace hxe := hid (hxe.out.keep (t'.above (S := w1.heap.size) (by intro g hg; omega))); clear hv' t') | refine wl_load 52 _ rfl rfl w1.heap.size 0 rfl ({ St.zero with op := 4, place := xp, e := xe } : St).cells A.out.var.range (St.agg _) ?_ | (refine wl_store_part 52 _ _ rfl rfl w.heap.size 0 rfl ({ St.zero with op := 4, place := xp, e := xe } : St).cells rfl (St.agg _) (st_one rfl rfl oxp.out oxe.out rfl rfl rfl) _ _ A.out.res (by rw [St.len, St.len]; omega) ?_; intro w9 V9 t9; replace V9 := hid V9; replace t9 := hid t9))
    rw [St.splice_all] at V9
    refine bodyPost_ret (results_cell_row rfl _ _ w.heap.size _ _ _ _ rfl V9.out Try.underlying52 rfl (by kernel_rfl)) rfl ?_
    have hup := t9.out.above (S := w1.heap.size) (by intro g hg; omega)
    refine ⟨_, rfl, ⟨{ St.zero with op := 4, place := xp, e := xe }, rfl, ?_, ?_, empty_ne⟩, A.out.made.res t9.out (Nat.le_refl _) hlt⟩
    · exact (St.ok_iff _ _ _).2 ⟨⟨by simp [St.zero, I64]; try omega, Rt.zero_ok _ _, Pl.ok.mono (Pl.ok.keep hxp.out hup) (fun g h1 h2 => by omega), (hxe.out.keep hup).mono (fun g h1 h2 => by omega), ⟨RowAt.nil _ _ _, by simp [St.zero]⟩, RowAt.nil _ _ _, RowAt.nil _ _ _⟩, by simp [St.zero], by simp [St.zero]⟩
    · rw [St.bare_eq]
      simp [St.zero, Rt.zero_bare, bxe.out, bxp.out]

set_option maxRecDepth 100000 in
set_option maxHeartbeats 4000000 in
theorem stmt_print (w : World) (M : Nat) (v : Value) (N : List Int) (i l d : Nat) (hd : d ≤ 3) (h : Mk w M v N i l) (ho : pk N 11 i = 4) :
    Calls Try.prog 45 #[.pointer (some ⟨M, 0, none⟩), .int .i64 d] w fun e w' => ∃ r, e = .returned r ∧ StOut w w' r { St.zero with op := 5, e := (exprM N 3 (nx N i)).1 } ∧ Made w M v N (l) ((exprM N 3 (nx N i)).2) w' := by
  have hlt := h.lt
  have C := fun o => pick_any (w.alloc o) M v N i l 11 (h.alloc o) (by omega) (by omega)
  rw [ho] at C
  have V := hid (VarAt.new w St.zero.cells 52)
  clear h
  by_cases hd0 : d = 0
  all_goals
    try subst hd0
    go_enter Try.func45, Try.ntmps45
    go_wp2_with fail
    refine (C _).mono ?_
    rintro e w1 ⟨rfl, hm⟩
    replace V := hid (V.out.touch hm.1 (by omega))
    replace hm := hid hm.alloc
    clear C
    have zV := V.out.lt
    have A : Hid (SAt w (w1.alloc (.cells ({ St.zero with op := 5 } : St).cells.toArray 52)) M v N l (nx N i) w1.heap.size { St.zero with op := 5 }) := hid ⟨hm.out.new _, V.out.kept ((Below.refl _ _).alloc (Nat.le_refl _) _), VarAt.new _ _ _, zV, hlt⟩
    have offS : Hid (∀ u ∈ ({ St.zero with op := 5 } : St).cells, u.oneCell' = true) := hid (st_one rfl rfl rfl rfl rfl rfl rfl)
    clear V hm
    have C := fun W hm => expr_any M v N l 3 W (nx N i) (by omega) hm
    go_wp2_with (refine wl_store_new 52 _ _ rfl rfl w1 52 _ rfl w1.heap.size rfl rfl ({ St.zero with op := 5 } : St).cells rfl (St.agg _) rfl offS.out ?_)
    have zA := A.out.var.lt
    refine (C _ A.out.made.2).mono ?_
    rintro e w2 ⟨r, rfl, ⟨xe, rfl, hxe, bxe, hz⟩, hm⟩
    replace hxe := hid (hxe.mono (G := fun g => w1.heap.size < g) (fun g h1 h2 => by omega))
    have oxe := hid (hxe.out.row.one)
    replace bxe := hid bxe
    replace A := hid (A.out.call hm)
    clear C hm zA
    unfold Ex.val
    go_wp2_with (first | (refine wl_store_part 46 _ _ rfl rfl w1.heap.size 43 rfl xe.cells rfl xe.agg (ex_one oxe.out) _ _ A.out.var (by rw [St.len, Ex.len]; omega) ?_; intro w' hv' t'; rw [St.set_e] at hv'; replace A := hid (A.out.store hv' t'); replace hxe := hid (hxe.out.keep (t'.above (S := w1.heap.size) (by intro g hg; omega))); clear hv' t') | refine wl_load 52 _ rfl rfl w1.heap.size 0 rfl ({ St.zero with op := 5, e := xe } : St).cells A.out.var.range (St.agg _) ?_ | (refine wl_store_part 52 _ _ rfl rfl w.heap.size 0 rfl ({ St.zero with op := 5, e := xe } : St).cells rfl (St.agg _) (st_one rfl rfl rfl oxe.out rfl rfl rfl) _ _ A.out.res (by rw [St.len, St.len]; omega) ?_; intro w9 V9 t9; replace V9 := hid V9; replace t9 := hid t9))
    rw [St.splice_all] at V9
    refine bodyPost_ret (results_cell_row rfl _ _ w.heap.size _ _ _ _ rfl V9.out Try.underlying52 rfl (by kernel_rfl)) rfl ?_
    have hup := t9.out.above (S := w1.heap.size) (by intro g hg; omega)
    refine ⟨_, rfl, ⟨{ St.zero with op := 5, e := xe }, rfl, ?_, ?_, empty_ne⟩, A.out.made.res t9.out (Nat.le_refl _) hlt⟩
    · exact (St.ok_iff _ _ _).2 ⟨⟨by simp [St.zero, I64]; try omega, Rt.zero_ok _ _, Pl.zero_ok _ _, (hxe.out.keep hup).mono (fun g h1 h2 => by omega), ⟨RowAt.nil _ _ _, by simp [St.zero]⟩, RowAt.nil _ _ _, RowAt.nil _ _ _⟩, by simp [St.zero], by simp [St.zero]⟩
    · rw [St.bare_eq]
      simp [St.zero, Rt.zero_bare, Pl.zero_bare, bxe.out]

set_option maxRecDepth 100000 in
set_option maxHeartbeats 4000000 in
theorem stmt_print5 (w : World) (M : Nat) (v : Value) (N : List Int) (i l d : Nat) (hd : d ≤ 3) (h : Mk w M v N i l) (ho : pk N 11 i = 5) :
    Calls Try.prog 45 #[.pointer (some ⟨M, 0, none⟩), .int .i64 (0 : Nat)] w fun e w' => ∃ r, e = .returned r ∧ StOut w w' r { St.zero with op := 5, e := (exprM N 3 (nx N i)).1 } ∧ Made w M v N (l) ((exprM N 3 (nx N i)).2) w' := by
  have hlt := h.lt
  have C := fun o => pick_any (w.alloc o) M v N i l 11 (h.alloc o) (by omega) (by omega)
  rw [ho] at C
  have V := hid (VarAt.new w St.zero.cells 52)
  clear h
  go_enter Try.func45, Try.ntmps45
  go_wp2_with fail
  refine (C _).mono ?_
  rintro e w1 ⟨rfl, hm⟩
  replace V := hid (V.out.touch hm.1 (by omega))
  replace hm := hid hm.alloc
  clear C
  have zV := V.out.lt
  have A : Hid (SAt w (w1.alloc (.cells ({ St.zero with op := 5 } : St).cells.toArray 52)) M v N l (nx N i) w1.heap.size { St.zero with op := 5 }) := hid ⟨hm.out.new _, V.out.kept ((Below.refl _ _).alloc (Nat.le_refl _) _), VarAt.new _ _ _, zV, hlt⟩
  have offS : Hid (∀ u ∈ ({ St.zero with op := 5 } : St).cells, u.oneCell' = true) := hid (st_one rfl rfl rfl rfl rfl rfl rfl)
  clear V hm
  have C := fun W hm => expr_any M v N l 3 W (nx N i) (by omega) hm
  go_wp2_with (refine wl_store_new 52 _ _ rfl rfl w1 52 _ rfl w1.heap.size rfl rfl ({ St.zero with op := 5 } : St).cells rfl (St.agg _) rfl offS.out ?_)
  have zA := A.out.var.lt
  refine (C _ A.out.made.2).mono ?_
  rintro e w2 ⟨r, rfl, ⟨xe, rfl, hxe, bxe, hz⟩, hm⟩
  replace hxe := hid (hxe.mono (G := fun g => w1.heap.size < g) (fun g h1 h2 => by omega))
  have oxe := hid (hxe.out.row.one)
  replace bxe := hid bxe
  replace A := hid (A.out.call hm)
  clear C hm zA
  unfold Ex.val
  go_wp2_with (first | (refine wl_store_part 46 _ _ rfl rfl w1.heap.size 43 rfl xe.cells rfl xe.agg (ex_one oxe.out) _ _ A.out.var (by rw [St.len, Ex.len]; omega) ?_; intro w' hv' t'; rw [St.set_e] at hv'; replace A := hid (A.out.store hv' t'); replace hxe := hid (hxe.out.keep (t'.above (S := w1.heap.size) (by intro g hg; omega))); clear hv' t') | refine wl_load 52 _ rfl rfl w1.heap.size 0 rfl ({ St.zero with op := 5, e := xe } : St).cells A.out.var.range (St.agg _) ?_ | (refine wl_store_part 52 _ _ rfl rfl w.heap.size 0 rfl ({ St.zero with op := 5, e := xe } : St).cells rfl (St.agg _) (st_one rfl rfl rfl oxe.out rfl rfl rfl) _ _ A.out.res (by rw [St.len, St.len]; omega) ?_; intro w9 V9 t9; replace V9 := hid V9; replace t9 := hid t9))
  rw [St.splice_all] at V9
  refine bodyPost_ret (results_cell_row rfl _ _ w.heap.size _ _ _ _ rfl V9.out Try.underlying52 rfl (by kernel_rfl)) rfl ?_
  have hup := t9.out.above (S := w1.heap.size) (by intro g hg; omega)
  refine ⟨_, rfl, ⟨{ St.zero with op := 5, e := xe }, rfl, ?_, ?_, empty_ne⟩, A.out.made.res t9.out (Nat.le_refl _) hlt⟩
  · exact (St.ok_iff _ _ _).2 ⟨⟨by simp [St.zero, I64]; try omega, Rt.zero_ok _ _, Pl.zero_ok _ _, (hxe.out.keep hup).mono (fun g h1 h2 => by omega), ⟨RowAt.nil _ _ _, by simp [St.zero]⟩, RowAt.nil _ _ _, RowAt.nil _ _ _⟩, by simp [St.zero], by simp [St.zero]⟩
  · rw [St.bare_eq]
    simp [St.zero, Rt.zero_bare, Pl.zero_bare, bxe.out]

set_option maxRecDepth 100000 in
set_option maxHeartbeats 4000000 in
theorem stmt_print6 (w : World) (M : Nat) (v : Value) (N : List Int) (i l d : Nat) (hd : d ≤ 3) (h : Mk w M v N i l) (ho : pk N 11 i = 6) :
    Calls Try.prog 45 #[.pointer (some ⟨M, 0, none⟩), .int .i64 (0 : Nat)] w fun e w' => ∃ r, e = .returned r ∧ StOut w w' r { St.zero with op := 5, e := (exprM N 3 (nx N i)).1 } ∧ Made w M v N (l) ((exprM N 3 (nx N i)).2) w' := by
  have hlt := h.lt
  have C := fun o => pick_any (w.alloc o) M v N i l 11 (h.alloc o) (by omega) (by omega)
  rw [ho] at C
  have V := hid (VarAt.new w St.zero.cells 52)
  clear h
  go_enter Try.func45, Try.ntmps45
  go_wp2_with fail
  refine (C _).mono ?_
  rintro e w1 ⟨rfl, hm⟩
  replace V := hid (V.out.touch hm.1 (by omega))
  replace hm := hid hm.alloc
  clear C
  have zV := V.out.lt
  have A : Hid (SAt w (w1.alloc (.cells ({ St.zero with op := 5 } : St).cells.toArray 52)) M v N l (nx N i) w1.heap.size { St.zero with op := 5 }) := hid ⟨hm.out.new _, V.out.kept ((Below.refl _ _).alloc (Nat.le_refl _) _), VarAt.new _ _ _, zV, hlt⟩
  have offS : Hid (∀ u ∈ ({ St.zero with op := 5 } : St).cells, u.oneCell' = true) := hid (st_one rfl rfl rfl rfl rfl rfl rfl)
  clear V hm
  have C := fun W hm => expr_any M v N l 3 W (nx N i) (by omega) hm
  go_wp2_with (refine wl_store_new 52 _ _ rfl rfl w1 52 _ rfl w1.heap.size rfl rfl ({ St.zero with op := 5 } : St).cells rfl (St.agg _) rfl offS.out ?_)
  have zA := A.out.var.lt
  refine (C _ A.out.made.2).mono ?_
  rintro e w2 ⟨r, rfl, ⟨xe, rfl, hxe, bxe, hz⟩, hm⟩
  replace hxe := hid (hxe.mono (G := fun g => w1.heap.size < g) (fun g h1 h2 => by omega))
  have oxe := hid (hxe.out.row.one)
  replace bxe := hid bxe
  replace A := hid (A.out.call hm)
  clear C hm zA
  unfold Ex.val
  go_wp2_with (first | (refine wl_store_part 46 _ _ rfl rfl w1.heap.size 43 rfl xe.cells rfl xe.agg (ex_one oxe.out) _ _ A.out.var (by rw [St.len, Ex.len]; omega) ?_; intro w' hv' t'; rw [St.set_e] at hv'; replace A := hid (A.out.store hv' t'); replace hxe := hid (hxe.out.keep (t'.above (S := w1.heap.size) (by intro g hg; omega))); clear hv' t') | refine wl_load 52 _ rfl rfl w1.heap.size 0 rfl ({ St.zero with op := 5, e := xe } : St).cells A.out.var.range (St.agg _) ?_ | (refine wl_store_part 52 _ _ rfl rfl w.heap.size 0 rfl ({ St.zero with op := 5, e := xe } : St).cells rfl (St.agg _) (st_one rfl rfl rfl oxe.out rfl rfl rfl) _ _ A.out.res (by rw [St.len, St.len]; omega) ?_; intro w9 V9 t9; replace V9 := hid V9; replace t9 := hid t9))
  rw [St.splice_all] at V9
  refine bodyPost_ret (results_cell_row rfl _ _ w.heap.size _ _ _ _ rfl V9.out Try.underlying52 rfl (by kernel_rfl)) rfl ?_
  have hup := t9.out.above (S := w1.heap.size) (by intro g hg; omega)
  refine ⟨_, rfl, ⟨{ St.zero with op := 5, e := xe }, rfl, ?_, ?_, empty_ne⟩, A.out.made.res t9.out (Nat.le_refl _) hlt⟩
  · exact (St.ok_iff _ _ _).2 ⟨⟨by simp [St.zero, I64]; try omega, Rt.zero_ok _ _, Pl.zero_ok _ _, (hxe.out.keep hup).mono (fun g h1 h2 => by omega), ⟨RowAt.nil _ _ _, by simp [St.zero]⟩, RowAt.nil _ _ _, RowAt.nil _ _ _⟩, by simp [St.zero], by simp [St.zero]⟩
  · rw [St.bare_eq]
    simp [St.zero, Rt.zero_bare, Pl.zero_bare, bxe.out]

set_option maxRecDepth 100000 in
set_option maxHeartbeats 4000000 in
theorem stmt_print9 (w : World) (M : Nat) (v : Value) (N : List Int) (i l d : Nat) (hd : d ≤ 3) (h : Mk w M v N i l) (ho : pk N 11 i = 9) :
    Calls Try.prog 45 #[.pointer (some ⟨M, 0, none⟩), .int .i64 (0 : Nat)] w fun e w' => ∃ r, e = .returned r ∧ StOut w w' r { St.zero with op := 5, e := (exprM N 3 (nx N i)).1 } ∧ Made w M v N (l) ((exprM N 3 (nx N i)).2) w' := by
  have hlt := h.lt
  have C := fun o => pick_any (w.alloc o) M v N i l 11 (h.alloc o) (by omega) (by omega)
  rw [ho] at C
  have V := hid (VarAt.new w St.zero.cells 52)
  clear h
  go_enter Try.func45, Try.ntmps45
  go_wp2_with fail
  refine (C _).mono ?_
  rintro e w1 ⟨rfl, hm⟩
  replace V := hid (V.out.touch hm.1 (by omega))
  replace hm := hid hm.alloc
  clear C
  have zV := V.out.lt
  have A : Hid (SAt w (w1.alloc (.cells ({ St.zero with op := 5 } : St).cells.toArray 52)) M v N l (nx N i) w1.heap.size { St.zero with op := 5 }) := hid ⟨hm.out.new _, V.out.kept ((Below.refl _ _).alloc (Nat.le_refl _) _), VarAt.new _ _ _, zV, hlt⟩
  have offS : Hid (∀ u ∈ ({ St.zero with op := 5 } : St).cells, u.oneCell' = true) := hid (st_one rfl rfl rfl rfl rfl rfl rfl)
  clear V hm
  have C := fun W hm => expr_any M v N l 3 W (nx N i) (by omega) hm
  go_wp2_with (refine wl_store_new 52 _ _ rfl rfl w1 52 _ rfl w1.heap.size rfl rfl ({ St.zero with op := 5 } : St).cells rfl (St.agg _) rfl offS.out ?_)
  have zA := A.out.var.lt
  refine (C _ A.out.made.2).mono ?_
  rintro e w2 ⟨r, rfl, ⟨xe, rfl, hxe, bxe, hz⟩, hm⟩
  replace hxe := hid (hxe.mono (G := fun g => w1.heap.size < g) (fun g h1 h2 => by omega))
  have oxe := hid (hxe.out.row.one)
  replace bxe := hid bxe
  replace A := hid (A.out.call hm)
  clear C hm zA
  unfold Ex.val
  go_wp2_with (first | (refine wl_store_part 46 _ _ rfl rfl w1.heap.size 43 rfl xe.cells rfl xe.agg (ex_one oxe.out) _ _ A.out.var (by rw [St.len, Ex.len]; omega) ?_; intro w' hv' t'; rw [St.set_e] at hv'; replace A := hid (A.out.store hv' t'); replace hxe := hid (hxe.out.keep (t'.above (S := w1.heap.size) (by intro g hg; omega))); clear hv' t') | refine wl_load 52 _ rfl rfl w1.heap.size 0 rfl ({ St.zero with op := 5, e := xe } : St).cells A.out.var.range (St.agg _) ?_ | (refine wl_store_part 52 _ _ rfl rfl w.heap.size 0 rfl ({ St.zero with op := 5, e := xe } : St).cells rfl (St.agg _) (st_one rfl rfl rfl oxe.out rfl rfl rfl) _ _ A.out.res (by rw [St.len, St.len]; omega) ?_; intro w9 V9 t9; replace V9 := hid V9; replace t9 := hid t9))
  rw [St.splice_all] at V9
  refine bodyPost_ret (results_cell_row rfl _ _ w.heap.size _ _ _ _ rfl V9.out Try.underlying52 rfl (by kernel_rfl)) rfl ?_
  have hup := t9.out.above (S := w1.heap.size) (by intro g hg; omega)
  refine ⟨_, rfl, ⟨{ St.zero with op := 5, e := xe }, rfl, ?_, ?_, empty_ne⟩, A.out.made.res t9.out (Nat.le_refl _) hlt⟩
  · exact (St.ok_iff _ _ _).2 ⟨⟨by simp [St.zero, I64]; try omega, Rt.zero_ok _ _, Pl.zero_ok _ _, (hxe.out.keep hup).mono (fun g h1 h2 => by omega), ⟨RowAt.nil _ _ _, by simp [St.zero]⟩, RowAt.nil _ _ _, RowAt.nil _ _ _⟩, by simp [St.zero], by simp [St.zero]⟩
  · rw [St.bare_eq]
    simp [St.zero, Rt.zero_bare, Pl.zero_bare, bxe.out]
end Go.Proofs.Ytfdfeiempeciiaa
