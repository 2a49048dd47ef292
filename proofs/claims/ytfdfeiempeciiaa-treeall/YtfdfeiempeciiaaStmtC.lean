/- The maker's stmt: If. -/
import Derived.Test.YtfdfeiempeciiaaStmtBase
namespace Go.Proofs.Ytfdfeiempeciiaa
open Go.ChangeShapes Go.WideShapes Go.ChangeAt Go.RowKit
set_option linter.unusedVariables false

set_option maxRecDepth 100000 in
set_option maxHeartbeats 1000000 in
theorem stmt_if0 (w : World) (M : Nat) (v : Value) (N : List Int) (i l d : Nat) (hd : d ≤ 3) (h : Mk w M v N i l) (ho : pk N 11 i = 5) (row : Nat → Nat → (List St × Nat) × Nat) (D : ∀ W i l, Mk W M v N i l → Calls Try.prog 25 #[.pointer (some ⟨M, 0, none⟩), .int .i64 d] W fun e w' => ∃ r, e = .returned r ∧ RowOut W w' r (row i l).1.1 ∧ Made W M v N (row i l).2 (row i l).1.2 w') (ho2 : pk N 2 (row (exprM N 2 (nx N i)).2 l).1.2 = 0) :
    Calls Try.prog 45 #[.pointer (some ⟨M, 0, none⟩), .int .i64 ((d + 1 : Nat) : Int)] w fun e w' => ∃ r, e = .returned r ∧ StOut w w' r { St.zero with op := 6, e := (exprM N 2 (nx N i)).1, body := (row (exprM N 2 (nx N i)).2 l).1.1, els := (row (nx N (row (exprM N 2 (nx N i)).2 l).1.2) (row (exprM N 2 (nx N i)).2 l).2).1.1 } ∧ Made w M v N ((row (nx N (row (exprM N 2 (nx N i)).2 l).1.2) (row (exprM N 2 (nx N i)).2 l).2).2) ((row (nx N (row (exprM N 2 (nx N i)).2 l).1.2) (row (exprM N 2 (nx N i)).2 l).2).1.2) w' := by
  have hlt := h.lt
  have C := fun o => pick_any (w.alloc o) M v N i l 11 (h.alloc o) (by omega) (by omega)
  rw [ho] at C
  have V := hid (VarAt.new w St.zero.cells 52)
  clear h
  have hd1 : ((d + 1 : Nat) : Int) = (d : Int) + 1 := by omega
  rw [hd1]
  have hd2 : (((d : Int) + 1) == 0) = false := by rw [beq_eq_false_iff_ne]; omega
  clear hd1
  go_enter Try.func45, Try.ntmps45
  go_wp2_with fail
  refine (C _).mono ?_
  rintro e w1 ⟨rfl, hm⟩
  replace V := hid (V.out.touch hm.1 (by omega))
  replace hm := hid hm.alloc
  clear C
  have zV := V.out.lt
  have A : Hid (SAt w (w1.alloc (.cells ({ St.zero with op := 6 } : St).cells.toArray 52)) M v N l (nx N i) w1.heap.size { St.zero with op := 6 }) := hid ⟨hm.out.new _, V.out.kept ((Below.refl _ _).alloc (Nat.le_refl _) _), VarAt.new _ _ _, zV, hlt⟩
  have offS : Hid (∀ u ∈ ({ St.zero with op := 6 } : St).cells, u.oneCell' = true) := hid (st_one rfl rfl rfl rfl rfl rfl rfl)
  clear V hm
  have C := fun W hm => expr_any M v N l 2 W (nx N i) (by omega) hm
  go_wp2_with (refine wl_store_new 52 _ _ rfl rfl w1 52 _ rfl w1.heap.size rfl rfl ({ St.zero with op := 6 } : St).cells rfl (St.agg _) rfl offS.out ?_)
  have zA := A.out.var.lt
  refine (C _ A.out.made.2).mono ?_
  rintro e w2 ⟨r, rfl, ⟨xe, rfl, hxe, bxe, hz⟩, hm⟩
  replace hxe := hid (hxe.mono (G := fun g => w1.heap.size < g) (fun g h1 h2 => by omega))
  have oxe := hid (hxe.out.row.one)
  replace bxe := hid bxe
  replace A := hid (A.out.call hm)
  clear C hm zA
  unfold Ex.val
  have C := fun W hm => D W ((exprM N 2 (nx N i)).2) (l) hm
  go_wp2_with ((refine wl_store_part 46 _ _ rfl rfl w1.heap.size 43 rfl xe.cells rfl xe.agg (ex_one oxe.out) _ _ A.out.var (by rw [St.len, Ex.len]; omega) ?_; intro w' hv' t'; rw [St.set_e] at hv'; replace A := hid (A.out.store hv' t'); replace hxe := hid (hxe.out.keep (t'.above (S := w1.heap.size) (by intro g hg; omega))); clear hv' t'))
  have zA := A.out.var.lt
  refine (C _ A.out.made.2).mono ?_
  rintro e w3 ⟨vb, rfl, ⟨lb, ownlb, lenlb, oklb, barlb, trlb⟩, hm⟩
  replace hxe := hid (hxe.out.keep (hm.1.above (S := w1.heap.size) (by intro g hg; omega)))
  have hlb : Hid (stsOk w3 (fun g => w1.heap.size < g) vb lb) := hid ⟨RowAt.of_owns ownlb (by omega) (fun g hg => by have := own_lt ownlb hg; omega), fun s hs => (oklb s hs).mono (fun g h1 h2 => by omega)⟩
  have olb := hid hlb.out.1.one
  obtain ⟨pnlb, cnlb, rfl⟩ := hlb.out.1.form
  replace barlb := hid barlb
  clear ownlb oklb lenlb trlb
  replace A := hid (A.out.call hm)
  clear C hm zA
  have C := fun W hm => pick_any W M v N ((row ((exprM N 2 (nx N i)).2) l).1.2) (row ((exprM N 2 (nx N i)).2) l).2 2 hm (by omega) (by omega)
  rw [ho2] at C
  go_wp2_with ((refine wl_store_cell 35 _ _ rfl rfl w1.heap.size 54 rfl (.slice pnlb lb.length cnlb) rfl info35 olb.out _ _ A.out.var (by rw [St.len]; omega) ?_; intro w' hv' t'; rw [St.set_body _ _ lb] at hv'; replace A := hid (A.out.store hv' t'); replace hxe := hid (hxe.out.keep (t'.above (S := w1.heap.size) (by intro g hg; omega))); replace hlb := hid (stsOk.keep hlb.out (t'.above (S := w1.heap.size) (by intro g hg; omega))); clear hv' t'))
  refine (C _ A.out.made.2).mono ?_
  rintro e w4 ⟨rfl, hm⟩
  replace hxe := hid (hxe.out.keep (hm.1.above (S := w1.heap.size) (by intro g hg; omega)))
  replace hlb := hid (stsOk.keep hlb.out (hm.1.above (S := w1.heap.size) (by intro g hg; omega)))
  replace A := hid (A.out.call hm)
  clear C hm
  have C := fun W hm => D W (nx N ((row ((exprM N 2 (nx N i)).2) l).1.2)) ((row ((exprM N 2 (nx N i)).2) l).2) hm
  go_wp2_with fail
  have zA := A.out.var.lt
  refine (C _ A.out.made.2).mono ?_
  rintro e w5 ⟨ve, rfl, ⟨le, ownle, lenle, okle, barle, trle⟩, hm⟩
  replace hxe := hid (hxe.out.keep (hm.1.above (S := w1.heap.size) (by intro g hg; omega)))
  replace hlb := hid (stsOk.keep hlb.out (hm.1.above (S := w1.heap.size) (by intro g hg; omega)))
  have hle : Hid (stsOk w5 (fun g => w1.heap.size < g) ve le) := hid ⟨RowAt.of_owns ownle (by omega) (fun g hg => by have := own_lt ownle hg; omega), fun s hs => (okle s hs).mono (fun g h1 h2 => by omega)⟩
  have ole := hid hle.out.1.one
  obtain ⟨pnle, cnle, rfl⟩ := hle.out.1.form
  replace barle := hid barle
  clear ownle okle lenle trle
  replace A := hid (A.out.call hm)
  clear C hm zA
  go_wp2_with (first | (refine wl_store_cell 35 _ _ rfl rfl w1.heap.size 55 rfl (.slice pnle le.length cnle) rfl info35 ole.out _ _ A.out.var (by rw [St.len]; omega) ?_; intro w' hv' t'; rw [St.set_els _ _ le] at hv'; replace A := hid (A.out.store hv' t'); replace hxe := hid (hxe.out.keep (t'.above (S := w1.heap.size) (by intro g hg; omega))); replace hlb := hid (stsOk.keep hlb.out (t'.above (S := w1.heap.size) (by intro g hg; omega))); replace hle := hid (stsOk.keep hle.out (t'.above (S := w1.heap.size) (by intro g hg; omega))); clear hv' t') | refine wl_load 52 _ rfl rfl w1.heap.size 0 rfl ({ St.zero with op := 6, e := xe, bv := (.slice pnlb lb.length cnlb), body := lb, ev := (.slice pnle le.length cnle), els := le } : St).cells A.out.var.range (St.agg _) ?_ | (refine wl_store_part 52 _ _ rfl rfl w.heap.size 0 rfl ({ St.zero with op := 6, e := xe, bv := (.slice pnlb lb.length cnlb), body := lb, ev := (.slice pnle le.length cnle), els := le } : St).cells rfl (St.agg _) (st_one rfl rfl rfl oxe.out rfl olb.out ole.out) _ _ A.out.res (by rw [St.len, St.len]; omega) ?_; intro w9 V9 t9; replace V9 := hid V9; replace t9 := hid t9))
  rw [St.splice_all] at V9
  refine bodyPost_ret (results_cell_row rfl _ _ w.heap.size _ _ _ _ rfl V9.out Try.underlying52 rfl (by kernel_rfl)) rfl ?_
  have hup := t9.out.above (S := w1.heap.size) (by intro g hg; omega)
  refine ⟨_, rfl, ⟨{ St.zero with op := 6, e := xe, bv := (.slice pnlb lb.length cnlb), body := lb, ev := (.slice pnle le.length cnle), els := le }, rfl, ?_, ?_, empty_ne⟩, A.out.made.res t9.out (Nat.le_refl _) hlt⟩
  · exact (St.ok_iff _ _ _).2 ⟨⟨by simp [St.zero, I64]; try omega, Rt.zero_ok _ _, Pl.zero_ok _ _, (hxe.out.keep hup).mono (fun g h1 h2 => by omega), ⟨RowAt.nil _ _ _, by simp [St.zero]⟩, ((hlb.out.keep hup).mono (fun g h1 h2 => by omega)).1, ((hle.out.keep hup).mono (fun g h1 h2 => by omega)).1⟩, ((hlb.out.keep hup).mono (fun g h1 h2 => by omega)).2, ((hle.out.keep hup).mono (fun g h1 h2 => by omega)).2⟩
  · rw [St.bare_eq]
    simp [St.zero, Rt.zero_bare, Pl.zero_bare, bxe.out, barlb.out, barle.out]
end Go.Proofs.Ytfdfeiempeciiaa
