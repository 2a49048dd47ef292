/- The maker's stmt: Loop. -/
import Derived.Test.YtfdfeiempeciiaaStmtBase
namespace Go.Proofs.Ytfdfeiempeciiaa
open Go.ChangeShapes Go.WideShapes Go.ChangeAt Go.RowKit
set_option linter.unusedVariables false

set_option maxRecDepth 100000 in
set_option maxHeartbeats 1000000 in
theorem stmt_loop0 (w : World) (M : Nat) (v : Value) (N : List Int) (i l d : Nat) (hd : d ≤ 3) (h : Mk w M v N i l) (ho : pk N 11 i = 6) (row : Nat → Nat → (List St × Nat) × Nat) (D : ∀ W i l, Mk W M v N i l → Calls Try.prog 25 #[.pointer (some ⟨M, 0, none⟩), .int .i64 d] W fun e w' => ∃ r, e = .returned r ∧ RowOut W w' r (row i l).1.1 ∧ Made W M v N (row i l).2 (row i l).1.2 w') (ho2 : pk N 2 (nx N i) = 0) :
    Calls Try.prog 45 #[.pointer (some ⟨M, 0, none⟩), .int .i64 ((d + 1 : Nat) : Int)] w fun e w' => ∃ r, e = .returned r ∧ StOut w w' r { St.zero with op := 7, nm := nmV (pk N 8 (nx N (nx N i))), n := pk N 9 (nx N (nx N (nx N i))), body := (row (nx N (nx N (nx N (nx N i)))) l).1.1 } ∧ Made w M v N ((row (nx N (nx N (nx N (nx N i)))) l).2) ((row (nx N (nx N (nx N (nx N i)))) l).1.2) w' := by
  have hlt := h.lt
  have C := fun o => pick_any (w.alloc o) M v N i l 11 (h.alloc o) (by omega) (by omega)
  rw [ho] at C
  have V := hid (VarAt.new w St.zero.cells 52)
  clear h
  have hd1 : ((d + 1 : Nat) : Int) = (d : Int) + 1 := by omega
  rw [hd1]
  have hd2 : (((d : Int) + 1) == 0) = false := by rw [beq_eq_false_iff_ne]; omega
  clear hd1
  have hk9 := pk_lt N 9 (nx N (nx N (nx N i))) (by omega)
  go_enter Try.func45, Try.ntmps45
  go_wp2_with fail
  refine (C _).mono ?_
  rintro e w1 ⟨rfl, hm⟩
  replace V := hid (V.out.touch hm.1 (by omega))
  replace hm := hid hm.alloc
  clear C
  have zV := V.out.lt
  have A : Hid (SAt w (w1.alloc (.cells ({ St.zero with op := 7 } : St).cells.toArray 52)) M v N l (nx N i) w1.heap.size { St.zero with op := 7 }) := hid ⟨hm.out.new _, V.out.kept ((Below.refl _ _).alloc (Nat.le_refl _) _), VarAt.new _ _ _, zV, hlt⟩
  have offS : Hid (∀ u ∈ ({ St.zero with op := 7 } : St).cells, u.oneCell' = true) := hid (st_one rfl rfl rfl rfl rfl rfl rfl)
  clear V hm
  have C := fun W hm => pick_any W M v N (nx N i) l 2 hm (by omega) (by omega)
  rw [ho2] at C
  go_wp2_with (refine wl_store_new 52 _ _ rfl rfl w1 52 _ rfl w1.heap.size rfl rfl ({ St.zero with op := 7 } : St).cells rfl (St.agg _) rfl offS.out ?_)
  refine (C _ A.out.made.2).mono ?_
  rintro e w2 ⟨rfl, hm⟩
  replace A := hid (A.out.call hm)
  clear C hm
  have C := fun W hm => name_any W M v N (nx N (nx N i)) l hm
  go_wp2_with fail
  refine (C _ A.out.made.2).mono ?_
  rintro e w3 ⟨rfl, hm⟩
  replace A := hid (A.out.call hm)
  clear C hm
  have C := fun W hm => pick_any W M v N (nx N (nx N (nx N i))) l 9 hm (by omega) (by omega)
  go_wp2_with ((refine wl_store_cell 9 _ _ rfl rfl w1.heap.size 1 rfl (.string (nmV (pk N 8 (nx N (nx N i))))) rfl info9 rfl _ _ A.out.var (by rw [St.len]; omega) ?_; intro w' hv' t'; rw [St.set_nm] at hv'; replace A := hid (A.out.store hv' t'); clear hv' t'))
  refine (C _ A.out.made.2).mono ?_
  rintro e w4 ⟨rfl, hm⟩
  replace A := hid (A.out.call hm)
  clear C hm
  have C := fun W hm => D W (nx N (nx N (nx N (nx N i)))) (l) hm
  go_wp2_with ((refine wl_store_cell 3 _ _ rfl rfl w1.heap.size 52 rfl (.int .i64 (pk N 9 (nx N (nx N (nx N i))) : Int)) rfl info3 rfl _ _ A.out.var (by rw [St.len]; omega) ?_; intro w' hv' t'; rw [St.set_n] at hv'; replace A := hid (A.out.store hv' t'); clear hv' t'))
  have zA := A.out.var.lt
  refine (C _ A.out.made.2).mono ?_
  rintro e w5 ⟨vb, rfl, ⟨lb, ownlb, lenlb, oklb, barlb, trlb⟩, hm⟩
  have hlb : Hid (stsOk w5 (fun g => w1.heap.size < g) vb lb) := hid ⟨RowAt.of_owns ownlb (by omega) (fun g hg => by have := own_lt ownlb hg; omega), fun s hs => (oklb s hs).mono (fun g h1 h2 => by omega)⟩
  have olb := hid hlb.out.1.one
  obtain ⟨pnlb, cnlb, rfl⟩ := hlb.out.1.form
  replace barlb := hid barlb
  clear ownlb oklb lenlb trlb
  replace A := hid (A.out.call hm)
  clear C hm zA
  go_wp2_with (first | (refine wl_store_cell 35 _ _ rfl rfl w1.heap.size 54 rfl (.slice pnlb lb.length cnlb) rfl info35 olb.out _ _ A.out.var (by rw [St.len]; omega) ?_; intro w' hv' t'; rw [St.set_body _ _ lb] at hv'; replace A := hid (A.out.store hv' t'); replace hlb := hid (stsOk.keep hlb.out (t'.above (S := w1.heap.size) (by intro g hg; omega))); clear hv' t') | refine wl_load 52 _ rfl rfl w1.heap.size 0 rfl ({ St.zero with op := 7, nm := nmV (pk N 8 (nx N (nx N i))), n := (pk N 9 (nx N (nx N (nx N i))) : Int), bv := (.slice pnlb lb.length cnlb), body := lb } : St).cells A.out.var.range (St.agg _) ?_ | (refine wl_store_part 52 _ _ rfl rfl w.heap.size 0 rfl ({ St.zero with op := 7, nm := nmV (pk N 8 (nx N (nx N i))), n := (pk N 9 (nx N (nx N (nx N i))) : Int), bv := (.slice pnlb lb.length cnlb), body := lb } : St).cells rfl (St.agg _) (st_one rfl rfl rfl rfl rfl olb.out rfl) _ _ A.out.res (by rw [St.len, St.len]; omega) ?_; intro w9 V9 t9; replace V9 := hid V9; replace t9 := hid t9))
  rw [St.splice_all] at V9
  refine bodyPost_ret (results_cell_row rfl _ _ w.heap.size _ _ _ _ rfl V9.out Try.underlying52 rfl (by kernel_rfl)) rfl ?_
  have hup := t9.out.above (S := w1.heap.size) (by intro g hg; omega)
  refine ⟨_, rfl, ⟨{ St.zero with op := 7, nm := nmV (pk N 8 (nx N (nx N i))), n := (pk N 9 (nx N (nx N (nx N i))) : Int), bv := (.slice pnlb lb.length cnlb), body := lb }, rfl, ?_, ?_, empty_ne⟩, A.out.made.res t9.out (Nat.le_refl _) hlt⟩
  · exact (St.ok_iff _ _ _).2 ⟨⟨by simp [I64]; omega, Rt.zero_ok _ _, Pl.zero_ok _ _, Ex.zero_ok _ _, ⟨RowAt.nil _ _ _, by simp [St.zero]⟩, ((hlb.out.keep hup).mono (fun g h1 h2 => by omega)).1, RowAt.nil _ _ _⟩, ((hlb.out.keep hup).mono (fun g h1 h2 => by omega)).2, by simp [St.zero]⟩
  · rw [St.bare_eq]
    simp [St.zero, Rt.zero_bare, Pl.zero_bare, Ex.zero_bare, barlb.out]

set_option maxRecDepth 100000 in
set_option maxHeartbeats 1000000 in
theorem stmt_loop1 (w : World) (M : Nat) (v : Value) (N : List Int) (i l d : Nat) (hd : d ≤ 3) (h : Mk w M v N i l) (ho : pk N 11 i = 6) (row : Nat → Nat → (List St × Nat) × Nat) (D : ∀ W i l, Mk W M v N i l → Calls Try.prog 25 #[.pointer (some ⟨M, 0, none⟩), .int .i64 d] W fun e w' => ∃ r, e = .returned r ∧ RowOut W w' r (row i l).1.1 ∧ Made W M v N (row i l).2 (row i l).1.2 w') (ho2 : pk N 2 (nx N i) = 1) :
    Calls Try.prog 45 #[.pointer (some ⟨M, 0, none⟩), .int .i64 ((d + 1 : Nat) : Int)] w fun e w' => ∃ r, e = .returned r ∧ StOut w w' r { St.zero with op := 7, n := pk N 9 (nx N (nx N i)), body := (row (nx N (nx N (nx N i))) l).1.1 } ∧ Made w M v N ((row (nx N (nx N (nx N i))) l).2) ((row (nx N (nx N (nx N i))) l).1.2) w' := by
  have hlt := h.lt
  have C := fun o => pick_any (w.alloc o) M v N i l 11 (h.alloc o) (by omega) (by omega)
  rw [ho] at C
  have V := hid (VarAt.new w St.zero.cells 52)
  clear h
  have hd1 : ((d + 1 : Nat) : Int) = (d : Int) + 1 := by omega
  rw [hd1]
  have hd2 : (((d : Int) + 1) == 0) = false := by rw [beq_eq_false_iff_ne]; omega
  clear hd1
  have hk9 := pk_lt N 9 (nx N (nx N i)) (by omega)
  go_enter Try.func45, Try.ntmps45
  go_wp2_with fail
  refine (C _).mono ?_
  rintro e w1 ⟨rfl, hm⟩
  replace V := hid (V.out.touch hm.1 (by omega))
  replace hm := hid hm.alloc
  clear C
  have zV := V.out.lt
  have A : Hid (SAt w (w1.alloc (.cells ({ St.zero with op := 7 } : St).cells.toArray 52)) M v N l (nx N i) w1.heap.size { St.zero with op := 7 }) := hid ⟨hm.out.new _, V.out.kept ((Below.refl _ _).alloc (Nat.le_refl _) _), VarAt.new _ _ _, zV, hlt⟩
  have offS : Hid (∀ u ∈ ({ St.zero with op := 7 } : St).cells, u.oneCell' = true) := hid (st_one rfl rfl rfl rfl rfl rfl rfl)
  clear V hm
  have C := fun W hm => pick_any W M v N (nx N i) l 2 hm (by omega) (by omega)
  rw [ho2] at C
  go_wp2_with (refine wl_store_new 52 _ _ rfl rfl w1 52 _ rfl w1.heap.size rfl rfl ({ St.zero with op := 7 } : St).cells rfl (St.agg _) rfl offS.out ?_)
  refine (C _ A.out.made.2).mono ?_
  rintro e w2 ⟨rfl, hm⟩
  replace A := hid (A.out.call hm)
  clear C hm
  have C := fun W hm => pick_any W M v N (nx N (nx N i)) l 9 hm (by omega) (by omega)
  go_wp2_with fail
  refine (C _ A.out.made.2).mono ?_
  rintro e w3 ⟨rfl, hm⟩
  replace A := hid (A.out.call hm)
  clear C hm
  have C := fun W hm => D W (nx N (nx N (nx N i))) (l) hm
  go_wp2_with ((refine wl_store_cell 3 _ _ rfl rfl w1.heap.size 52 rfl (.int .i64 (pk N 9 (nx N (nx N i)) : Int)) rfl info3 rfl _ _ A.out.var (by rw [St.len]; omega) ?_; intro w' hv' t'; rw [St.set_n] at hv'; replace A := hid (A.out.store hv' t'); clear hv' t'))
  have zA := A.out.var.lt
  refine (C _ A.out.made.2).mono ?_
  rintro e w4 ⟨vb, rfl, ⟨lb, ownlb, lenlb, oklb, barlb, trlb⟩, hm⟩
  have hlb : Hid (stsOk w4 (fun g => w1.heap.size < g) vb lb) := hid ⟨RowAt.of_owns ownlb (by omega) (fun g hg => by have := own_lt ownlb hg; omega), fun s hs => (oklb s hs).mono (fun g h1 h2 => by omega)⟩
  have olb := hid hlb.out.1.one
  obtain ⟨pnlb, cnlb, rfl⟩ := hlb.out.1.form
  replace barlb := hid barlb
  clear ownlb oklb lenlb trlb
  replace A := hid (A.out.call hm)
  clear C hm zA
  go_wp2_with (first | (refine wl_store_cell 35 _ _ rfl rfl w1.heap.size 54 rfl (.slice pnlb lb.length cnlb) rfl info35 olb.out _ _ A.out.var (by rw [St.len]; omega) ?_; intro w' hv' t'; rw [St.set_body _ _ lb] at hv'; replace A := hid (A.out.store hv' t'); replace hlb := hid (stsOk.keep hlb.out (t'.above (S := w1.heap.size) (by intro g hg; omega))); clear hv' t') | refine wl_load 52 _ rfl rfl w1.heap.size 0 rfl ({ St.zero with op := 7, n := (pk N 9 (nx N (nx N i)) : Int), bv := (.slice pnlb lb.length cnlb), body := lb } : St).cells A.out.var.range (St.agg _) ?_ | (refine wl_store_part 52 _ _ rfl rfl w.heap.size 0 rfl ({ St.zero with op := 7, n := (pk N 9 (nx N (nx N i)) : Int), bv := (.slice pnlb lb.length cnlb), body := lb } : St).cells rfl (St.agg _) (st_one rfl rfl rfl rfl rfl olb.out rfl) _ _ A.out.res (by rw [St.len, St.len]; omega) ?_; intro w9 V9 t9; replace V9 := hid V9; replace t9 := hid t9))
  rw [St.splice_all] at V9
  refine bodyPost_ret (results_cell_row rfl _ _ w.heap.size _ _ _ _ rfl V9.out Try.underlying52 rfl (by kernel_rfl)) rfl ?_
  have hup := t9.out.above (S := w1.heap.size) (by intro g hg; omega)
  refine ⟨_, rfl, ⟨{ St.zero with op := 7, n := (pk N 9 (nx N (nx N i)) : Int), bv := (.slice pnlb lb.length cnlb), body := lb }, rfl, ?_, ?_, empty_ne⟩, A.out.made.res t9.out (Nat.le_refl _) hlt⟩
  · exact (St.ok_iff _ _ _).2 ⟨⟨by simp [I64]; omega, Rt.zero_ok _ _, Pl.zero_ok _ _, Ex.zero_ok _ _, ⟨RowAt.nil _ _ _, by simp [St.zero]⟩, ((hlb.out.keep hup).mono (fun g h1 h2 => by omega)).1, RowAt.nil _ _ _⟩, ((hlb.out.keep hup).mono (fun g h1 h2 => by omega)).2, by simp [St.zero]⟩
  · rw [St.bare_eq]
    simp [St.zero, Rt.zero_bare, Pl.zero_bare, Ex.zero_bare, barlb.out]
end Go.Proofs.Ytfdfeiempeciiaa
