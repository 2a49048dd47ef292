/- The maker's stmt: Let, Var, Assign. -/
import Derived.Test.YtfdfeiempeciiaaStmtBase
namespace Go.Proofs.Ytfdfeiempeciiaa
open Go.ChangeShapes Go.WideShapes Go.ChangeAt Go.RowKit
set_option linter.unusedVariables false

set_option maxRecDepth 100000 in
set_option maxHeartbeats 4000000 in
theorem stmt_let0 (w : World) (M : Nat) (v : Value) (N : List Int) (i l d : Nat) (hd : d ≤ 3) (h : Mk w M v N i l) (ho : pk N 11 i = 0) :
    Calls Try.prog 45 #[.pointer (some ⟨M, 0, none⟩), .int .i64 d] w fun e w' => ∃ r, e = .returned r ∧ StOut w w' r { St.zero with op := 1, nm := nmV (pk N 8 (nx N i)), right := (rightM N (nx N (nx N i))).1 } ∧ Made w M v N (l) ((rightM N (nx N (nx N i))).2) w' := by
  have hlt := h.lt
  have C := fun o => pick_any (w.alloc o) M v N i l 11 (h.alloc o) (by omega) (by omega)
  rw [ho] at C
  have V := hid (VarAt.new w St.zero.cells 52)
  clear h
  by_cases hd0 : d = 0
  all_goals
    try subst hd0
    go_enter Try.func45, Try.ntmps45
    go_wp2_with fail
    refine (C _).mono ?_
    rintro e w1 ⟨rfl, hm⟩
    replace V := hid (V.out.touch hm.1 (by omega))
    replace hm := hid hm.alloc
    clear C
    have zV := V.out.lt
    have A : Hid (SAt w (w1.alloc (.cells ({ St.zero with op := 1 } : St).cells.toArray 52)) M v N l (nx N i) w1.heap.size { St.zero with op := 1 }) := hid ⟨hm.out.new _, V.out.kept ((Below.refl _ _).alloc (Nat.le_refl _) _), VarAt.new _ _ _, zV, hlt⟩
    have offS : Hid (∀ u ∈ ({ St.zero with op := 1 } : St).cells, u.oneCell' = true) := hid (st_one rfl rfl rfl rfl rfl rfl rfl)
    clear V hm
    have C := fun W hm => name_any W M v N (nx N i) l hm
    go_wp2_with (refine wl_store_new 52 _ _ rfl rfl w1 52 _ rfl w1.heap.size rfl rfl ({ St.zero with op := 1 } : St).cells rfl (St.agg _) rfl offS.out ?_)
    refine (C _ A.out.made.2).mono ?_
    rintro e w2 ⟨rfl, hm⟩
    replace A := hid (A.out.call hm)
    clear C hm
    have C := fun W hm => right_any W M v N (nx N (nx N i)) l hm
    go_wp2_with ((refine wl_store_cell 9 _ _ rfl rfl w1.heap.size 1 rfl (.string (nmV (pk N 8 (nx N i)))) rfl info9 rfl _ _ A.out.var (by rw [St.len]; omega) ?_; intro w' hv' t'; rw [St.set_nm] at hv'; replace A := hid (A.out.store hv' t'); clear hv' t'))
    have zA := A.out.var.lt
    refine (C _ A.out.made.2).mono ?_
    rintro e w3 ⟨r, rfl, ⟨xr, rfl, hxr, bxr, hz⟩, hm⟩
    replace hxr := hid (Rt.ok.mono hxr (G := fun g => w1.heap.size < g) (fun g h1 h2 => by omega))
    have oxr := hid (And.intro hxr.out.2.1.row.one hxr.out.2.2.2.row.one)
    replace bxr := hid bxr
    replace A := hid (A.out.call hm)
    clear C hm zA
    unfold Rt.val
    go_wp2_with (first | (refine wl_store_part 50 _ _ rfl rfl w1.heap.size 2 rfl xr.cells rfl xr.agg (rt_one oxr.out.1 oxr.out.2) _ _ A.out.var (by rw [St.len, Rt.len]; omega) ?_; intro w' hv' t'; rw [St.set_right] at hv'; replace A := hid (A.out.store hv' t'); replace hxr := hid (Rt.ok.keep hxr.out (t'.above (S := w1.heap.size) (by intro g hg; omega))); clear hv' t') | refine wl_load 52 _ rfl rfl w1.heap.size 0 rfl ({ St.zero with op := 1, nm := nmV (pk N 8 (nx N i)), right := xr } : St).cells A.out.var.range (St.agg _) ?_ | (refine wl_store_part 52 _ _ rfl rfl w.heap.size 0 rfl ({ St.zero with op := 1, nm := nmV (pk N 8 (nx N i)), right := xr } : St).cells rfl (St.agg _) (st_one oxr.out.1 oxr.out.2 rfl rfl rfl rfl rfl) _ _ A.out.res (by rw [St.len, St.len]; omega) ?_; intro w9 V9 t9; replace V9 := hid V9; replace t9 := hid t9))
    rw [St.splice_all] at V9
    refine bodyPost_ret (results_cell_row rfl _ _ w.heap.size _ _ _ _ rfl V9.out Try.underlying52 rfl (by kernel_rfl)) rfl ?_
    have hup := t9.out.above (S := w1.heap.size) (by intro g hg; omega)
    refine ⟨_, rfl, ⟨{ St.zero with op := 1, nm := nmV (pk N 8 (nx N i)), right := xr }, rfl, ?_, ?_, hz⟩, A.out.made.res t9.out (Nat.le_refl _) hlt⟩
    · exact (St.ok_iff _ _ _).2 ⟨⟨by simp [St.zero, I64]; try omega, Rt.ok.mono (Rt.ok.keep hxr.out hup) (fun g h1 h2 => by omega), Pl.zero_ok _ _, Ex.zero_ok _ _, ⟨RowAt.nil _ _ _, by simp [St.zero]⟩, RowAt.nil _ _ _, RowAt.nil _ _ _⟩, by simp [St.zero], by simp [St.zero]⟩
    · rw [St.bare_eq]
      simp [St.zero, Pl.zero_bare, Ex.zero_bare, bxr.out]

set_option maxRecDepth 100000 in
set_option maxHeartbeats 4000000 in
theorem stmt_let1 (w : World) (M : Nat) (v : Value) (N : List Int) (i l d : Nat) (hd : d ≤ 3) (h : Mk w M v N i l) (ho : pk N 11 i = 1) :
    Calls Try.prog 45 #[.pointer (some ⟨M, 0, none⟩), .int .i64 d] w fun e w' => ∃ r, e = .returned r ∧ StOut w w' r { St.zero with op := 2, nm := nmV (pk N 8 (nx N i)), right := (rightM N (nx N (nx N i))).1 } ∧ Made w M v N (l) ((rightM N (nx N (nx N i))).2) w' := by
  have hlt := h.lt
  have C := fun o => pick_any (w.alloc o) M v N i l 11 (h.alloc o) (by omega) (by omega)
  rw [ho] at C
  have V := hid (VarAt.new w St.zero.cells 52)
  clear h
  by_cases hd0 : d = 0
  all_goals
    try subst hd0
    go_enter Try.func45, Try.ntmps45
    go_wp2_with fail
    refine (C _).mono ?_
    rintro e w1 ⟨rfl, hm⟩
    replace V := hid (V.out.touch hm.1 (by omega))
    replace hm := hid hm.alloc
    clear C
    have zV := V.out.lt
    have A : Hid (SAt w (w1.alloc (.cells ({ St.zero with op := 2 } : St).cells.toArray 52)) M v N l (nx N i) w1.heap.size { St.zero with op := 2 }) := hid ⟨hm.out.new _, V.out.kept ((Below.refl _ _).alloc (Nat.le_refl _) _), VarAt.new _ _ _, zV, hlt⟩
    have offS : Hid (∀ u ∈ ({ St.zero with op := 2 } : St).cells, u.oneCell' = true) := hid (st_one rfl rfl rfl rfl rfl rfl rfl)
    clear V hm
    have C := fun W hm => name_any W M v N (nx N i) l hm
    go_wp2_with (refine wl_store_new 52 _ _ rfl rfl w1 52 _ rfl w1.heap.size rfl rfl ({ St.zero with op := 2 } : St).cells rfl (St.agg _) rfl offS.out ?_)
    refine (C _ A.out.made.2).mono ?_
    rintro e w2 ⟨rfl, hm⟩
    replace A := hid (A.out.call hm)
    clear C hm
    have C := fun W hm => right_any W M v N (nx N (nx N i)) l hm
    go_wp2_with ((refine wl_store_cell 9 _ _ rfl rfl w1.heap.size 1 rfl (.string (nmV (pk N 8 (nx N i)))) rfl info9 rfl _ _ A.out.var (by rw [St.len]; omega) ?_; intro w' hv' t'; rw [St.set_nm] at hv'; replace A := hid (A.out.store hv' t'); clear hv' t'))
    have zA := A.out.var.lt
    refine (C _ A.out.made.2).mono ?_
    rintro e w3 ⟨r, rfl, ⟨xr, rfl, hxr, bxr, hz⟩, hm⟩
    replace hxr := hid (Rt.ok.mono hxr (G := fun g => w1.heap.size < g) (fun g h1 h2 => by omega))
    have oxr := hid (And.intro hxr.out.2.1.row.one hxr.out.2.2.2.row.one)
    replace bxr := hid bxr
    replace A := hid (A.out.call hm)
    clear C hm zA
    unfold Rt.val
    go_wp2_with (first | (refine wl_store_part 50 _ _ rfl rfl w1.heap.size 2 rfl xr.cells rfl xr.agg (rt_one oxr.out.1 oxr.out.2) _ _ A.out.var (by rw [St.len, Rt.len]; omega) ?_; intro w' hv' t'; rw [St.set_right] at hv'; replace A := hid (A.out.store hv' t'); replace hxr := hid (Rt.ok.keep hxr.out (t'.above (S := w1.heap.size) (by intro g hg; omega))); clear hv' t') | refine wl_load 52 _ rfl rfl w1.heap.size 0 rfl ({ St.zero with op := 2, nm := nmV (pk N 8 (nx N i)), right := xr } : St).cells A.out.var.range (St.agg _) ?_ | (refine wl_store_part 52 _ _ rfl rfl w.heap.size 0 rfl ({ St.zero with op := 2, nm := nmV (pk N 8 (nx N i)), right := xr } : St).cells rfl (St.agg _) (st_one oxr.out.1 oxr.out.2 rfl rfl rfl rfl rfl) _ _ A.out.res (by rw [St.len, St.len]; omega) ?_; intro w9 V9 t9; replace V9 := hid V9; replace t9 := hid t9))
    rw [St.splice_all] at V9
    refine bodyPost_ret (results_cell_row rfl _ _ w.heap.size _ _ _ _ rfl V9.out Try.underlying52 rfl (by kernel_rfl)) rfl ?_
    have hup := t9.out.above (S := w1.heap.size) (by intro g hg; omega)
    refine ⟨_, rfl, ⟨{ St.zero with op := 2, nm := nmV (pk N 8 (nx N i)), right := xr }, rfl, ?_, ?_, hz⟩, A.out.made.res t9.out (Nat.le_refl _) hlt⟩
    · exact (St.ok_iff _ _ _).2 ⟨⟨by simp [St.zero, I64]; try omega, Rt.ok.mono (Rt.ok.keep hxr.out hup) (fun g h1 h2 => by omega), Pl.zero_ok _ _, Ex.zero_ok _ _, ⟨RowAt.nil _ _ _, by simp [St.zero]⟩, RowAt.nil _ _ _, RowAt.nil _ _ _⟩, by simp [St.zero], by simp [St.zero]⟩
    · rw [St.bare_eq]
      simp [St.zero, Pl.zero_bare, Ex.zero_bare, bxr.out]

set_option maxRecDepth 100000 in
set_option maxHeartbeats 4000000 in
theorem stmt_let2 (w : World) (M : Nat) (v : Value) (N : List Int) (i l d : Nat) (hd : d ≤ 3) (h : Mk w M v N i l) (ho : pk N 11 i = 2) :
    Calls Try.prog 45 #[.pointer (some ⟨M, 0, none⟩), .int .i64 d] w fun e w' => ∃ r, e = .returned r ∧ StOut w w' r { St.zero with op := 3, nm := nmV (pk N 8 (nx N i)), right := (rightM N (nx N (nx N i))).1 } ∧ Made w M v N (l) ((rightM N (nx N (nx N i))).2) w' := by
  have hlt := h.lt
  have C := fun o => pick_any (w.alloc o) M v N i l 11 (h.alloc o) (by omega) (by omega)
  rw [ho] at C
  have V := hid (VarAt.new w St.zero.cells 52)
  clear h
  by_cases hd0 : d = 0
  all_goals
    try subst hd0
    go_enter Try.func45, Try.ntmps45
    go_wp2_with fail
    refine (C _).mono ?_
    rintro e w1 ⟨rfl, hm⟩
    replace V := hid (V.out.touch hm.1 (by omega))
    replace hm := hid hm.alloc
    clear C
    have zV := V.out.lt
    have A : Hid (SAt w (w1.alloc (.cells ({ St.zero with op := 3 } : St).cells.toArray 52)) M v N l (nx N i) w1.heap.size { St.zero with op := 3 }) := hid ⟨hm.out.new _, V.out.kept ((Below.refl _ _).alloc (Nat.le_refl _) _), VarAt.new _ _ _, zV, hlt⟩
    have offS : Hid (∀ u ∈ ({ St.zero with op := 3 } : St).cells, u.oneCell' = true) := hid (st_one rfl rfl rfl rfl rfl rfl rfl)
    clear V hm
    have C := fun W hm => name_any W M v N (nx N i) l hm
    go_wp2_with (refine wl_store_new 52 _ _ rfl rfl w1 52 _ rfl w1.heap.size rfl rfl ({ St.zero with op := 3 } : St).cells rfl (St.agg _) rfl offS.out ?_)
    refine (C _ A.out.made.2).mono ?_
    rintro e w2 ⟨rfl, hm⟩
    replace A := hid (A.out.call hm)
    clear C hm
    have C := fun W hm => right_any W M v N (nx N (nx N i)) l hm
    go_wp2_with ((refine wl_store_cell 9 _ _ rfl rfl w1.heap.size 1 rfl (.string (nmV (pk N 8 (nx N i)))) rfl info9 rfl _ _ A.out.var (by rw [St.len]; omega) ?_; intro w' hv' t'; rw [St.set_nm] at hv'; replace A := hid (A.out.store hv' t'); clear hv' t'))
    have zA := A.out.var.lt
    refine (C _ A.out.made.2).mono ?_
    rintro e w3 ⟨r, rfl, ⟨xr, rfl, hxr, bxr, hz⟩, hm⟩
    replace hxr := hid (Rt.ok.mono hxr (G := fun g => w1.heap.size < g) (fun g h1 h2 => by omega))
    have oxr := hid (And.intro hxr.out.2.1.row.one hxr.out.2.2.2.row.one)
    replace bxr := hid bxr
    replace A := hid (A.out.call hm)
    clear C hm zA
    unfold Rt.val
    go_wp2_with (first | (refine wl_store_part 50 _ _ rfl rfl w1.heap.size 2 rfl xr.cells rfl xr.agg (rt_one oxr.out.1 oxr.out.2) _ _ A.out.var (by rw [St.len, Rt.len]; omega) ?_; intro w' hv' t'; rw [St.set_right] at hv'; replace A := hid (A.out.store hv' t'); replace hxr := hid (Rt.ok.keep hxr.out (t'.above (S := w1.heap.size) (by intro g hg; omega))); clear hv' t') | refine wl_load 52 _ rfl rfl w1.heap.size 0 rfl ({ St.zero with op := 3, nm := nmV (pk N 8 (nx N i)), right := xr } : St).cells A.out.var.range (St.agg _) ?_ | (refine wl_store_part 52 _ _ rfl rfl w.heap.size 0 rfl ({ St.zero with op := 3, nm := nmV (pk N 8 (nx N i)), right := xr } : St).cells rfl (St.agg _) (st_one oxr.out.1 oxr.out.2 rfl rfl rfl rfl rfl) _ _ A.out.res (by rw [St.len, St.len]; omega) ?_; intro w9 V9 t9; replace V9 := hid V9; replace t9 := hid t9))
    rw [St.splice_all] at V9
    refine bodyPost_ret (results_cell_row rfl _ _ w.heap.size _ _ _ _ rfl V9.out Try.underlying52 rfl (by kernel_rfl)) rfl ?_
    have hup := t9.out.above (S := w1.heap.size) (by intro g hg; omega)
    refine ⟨_, rfl, ⟨{ St.zero with op := 3, nm := nmV (pk N 8 (nx N i)), right := xr }, rfl, ?_, ?_, hz⟩, A.out.made.res t9.out (Nat.le_refl _) hlt⟩
    · exact (St.ok_iff _ _ _).2 ⟨⟨by simp [St.zero, I64]; try omega, Rt.ok.mono (Rt.ok.keep hxr.out hup) (fun g h1 h2 => by omega), Pl.zero_ok _ _, Ex.zero_ok _ _, ⟨RowAt.nil _ _ _, by simp [St.zero]⟩, RowAt.nil _ _ _, RowAt.nil _ _ _⟩, by simp [St.zero], by simp [St.zero]⟩
    · rw [St.bare_eq]
      simp [St.zero, Pl.zero_bare, Ex.zero_bare, bxr.out]
end Go.Proofs.Ytfdfeiempeciiaa
