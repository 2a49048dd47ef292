/- The contract of the document's place. -/
import Derived.Test.YtfdfeiempeciiaaRefExpr
namespace Go.Proofs.Ytfdfeiempeciiaa
open Go.ChangeShapes Go.WideShapes Go.ChangeAt Go.RowKit
set_option linter.unusedVariables false

/-- A row of cells, in a world. -/
def Cells (B : Nat) (cs : List (Nat × Value)) (W : World) : Prop := ∀ p ∈ cs, W.cell? ⟨B, p.1, none⟩ = some p.2
theorem Cells.next {B : Nat} {cs : List (Nat × Value)} {W0 W w' : World} (h : Cells B cs W0) (hl : B < W0.heap.size) (hb : Below W.heap.size W w') (eh : W.heap = W0.heap) : Cells B cs w' := fun p hp => by
  rw [hb.cell (p := ⟨B, p.1, none⟩) (by rw [eh]; exact hl), World.cell?_of_block (w := W0) (w' := W) (a := ⟨B, p.1, none⟩) (by rw [eh])]
  exact h p hp

/-- The box of a place, in a world. -/
def BoxP (B : Nat) (q : Pl) (W : World) : Prop := W.cell? ⟨B, 0, none⟩ = some (.int .i64 q.op) ∧ W.cell? ⟨B, 1, none⟩ = some (.string q.base) ∧ W.cell? ⟨B, 2, none⟩ = some (.string q.field) ∧ W.cell? ⟨B, 3, none⟩ = some (.int .i64 q.index.op) ∧ W.cell? ⟨B, 4, none⟩ = some (.int .i64 q.index.bin) ∧ W.cell? ⟨B, 5, none⟩ = some (.int .u64 q.index.n) ∧ W.cell? ⟨B, 6, none⟩ = some (.int .i64 q.index.tk) ∧ W.cell? ⟨B, 7, none⟩ = some (.string q.index.tr) ∧ W.cell? ⟨B, 8, none⟩ = some (.string q.index.nm) ∧ W.cell? ⟨B, 9, none⟩ = some q.index.kv ∧ W.cell? ⟨B, 10, none⟩ = some (.int .i64 q.index.line) ∧ W.cell? ⟨B, 11, none⟩ = some (.int .i64 q.index.col)
theorem boxP_of {W : World} {B : Nat} {q : Pl} (h : VarAt W B q.cells 48) : BoxP B q W := ⟨h.cell 0 rfl, h.cell 1 rfl, h.cell 2 rfl, h.cell 3 rfl, h.cell 4 rfl, h.cell 5 rfl, h.cell 6 rfl, h.cell 7 rfl, h.cell 8 rfl, h.cell 9 rfl, h.cell 10 rfl, h.cell 11 rfl⟩
theorem BoxP.next {B : Nat} {q : Pl} {W0 W w' : World} (h : BoxP B q W0) (hb : Below W.heap.size W w') (eh : W.heap = W0.heap) : BoxP B q w' := by
  have hB : B < W.heap.size := by rw [eh]; exact World.block_lt_of_cell? W0 _ h.1
  have k : ∀ o, w'.cell? ⟨B, o, none⟩ = W0.cell? ⟨B, o, none⟩ := fun o => (hb.cell (p := ⟨B, o, none⟩) hB).trans (World.cell?_of_block (w := W0) (w' := W) (a := ⟨B, o, none⟩) (by rw [eh]))
  simp only [BoxP, k]
  exact h
theorem BoxP.alloc {B : Nat} {q : Pl} {W : World} (h : BoxP B q W) (o : Obj) : BoxP B q (W.alloc o) := h.next ((Below.refl _ _).alloc (Nat.le_refl _) o) rfl
theorem BoxP.grew {B : Nat} {q : Pl} {W w' : World} {v v' : Value} (h : BoxP B q W) (hg : Grew W w' v v') (hv : v.ownBlock ≠ some B) : BoxP B q w' := by
  have hB : B < W.heap.size := World.block_lt_of_cell? W _ h.1
  have k : ∀ o, w'.cell? ⟨B, o, none⟩ = W.cell? ⟨B, o, none⟩ := fun o => World.cell?_of_block (w := W) (w' := w') (a := ⟨B, o, none⟩) (hg.by_.block B hB (fun e => hv e.symm))
  simp only [BoxP, k]
  exact h
def Pl.hd4 (q : Pl) : List ByteArray := [sPlace, txt q.op, q.base, q.field]

set_option maxRecDepth 100000 in
set_option maxHeartbeats 2000000 in
theorem refPlace_any (q : Pl) (w : World) (F : Nat → Prop) (h : q.ok w F) (hl : q.texts.length ≤ 2000000) : Calls Try.prog 37 #[q.val] w fun r w' => ∃ v, r = .returned v ∧ Txts w w' v q.texts := by
  have hbx := hid (boxP_of (VarAt.new w q.cells 48))
  have hb0 := hbx.out
  simp only [BoxP] at hb0
  obtain ⟨c0, c1, c2, c3, c4, c5, c6, c7, c8, c9, c10, c11⟩ := hb0
  have T := fun n W => text_any n W
  have Bel : Hid (Below w.heap.size w (w.alloc (.cells q.cells.toArray 48))) := hid ((Below.refl _ _).alloc (Nat.le_refl _) _)
  have hlt : q.hd4.length + q.index.texts.length ≤ 2000000 := by simpa only [Pl.texts, Pl.hd4, List.length_append] using hl
  have hli : q.index.texts.length ≤ 2000000 := by omega
  have TE := hid (fun (W : World) (hb : Below w.heap.size w W) => refExpr_any q.index W F (h.2.kept hb) hli)
  have et : Hid (q.texts = q.hd4 ++ q.index.texts) := hid rfl
  have h4 : Hid (q.hd4.length ≤ 1000) := hid (by simp [Pl.hd4])
  clear h hl
  unfold Pl.val
  go_enter Try.func37, Try.ntmps37
  go_wp2_with fail
  go_region_held3 (fun w' => w'.cell? ⟨w.heap.size, 0, none⟩ = some (.int .i64 q.op) ∧ w'.cell? ⟨w.heap.size, 1, none⟩ = some (.string q.base) ∧ w'.cell? ⟨w.heap.size, 2, none⟩ = some (.string q.field) ∧ w'.cell? ⟨w.heap.size, 3, none⟩ = some (.int .i64 q.index.op) ∧ w'.cell? ⟨w.heap.size, 4, none⟩ = some (.int .i64 q.index.bin) ∧ w'.cell? ⟨w.heap.size, 5, none⟩ = some (.int .u64 q.index.n) ∧ w'.cell? ⟨w.heap.size, 6, none⟩ = some (.int .i64 q.index.tk) ∧ w'.cell? ⟨w.heap.size, 7, none⟩ = some (.string q.index.tr) ∧ w'.cell? ⟨w.heap.size, 8, none⟩ = some (.string q.index.nm) ∧ w'.cell? ⟨w.heap.size, 9, none⟩ = some q.index.kv ∧ w'.cell? ⟨w.heap.size, 10, none⟩ = some (.int .i64 q.index.line) ∧ w'.cell? ⟨w.heap.size, 11, none⟩ = some (.int .i64 q.index.col))
    (first | go_keep | exact hbx.out | exact hbx.out.alloc _)
    (first
      | (go_at_call 34; refine (T _ _).mono ?_; rintro r w1 ⟨rfl, hb⟩; replace hbx := hid (hbx.out.next hb rfl); have hbz := hbx.out; simp only [BoxP] at hbz; have z1 := World.block_lt_of_cell? _ _ hbz.1; replace Bel := hid (bel_step Bel.out hb rfl rfl rfl rfl); clear hb)
      | (go_at_call 15; refine (TE.out _ (by first | exact Bel.out | exact below_drew Bel.out)).mono ?_; rintro r w2 ⟨v2, rfl, hA⟩; replace hbx := hid (hbx.out.next hA.bel rfl); have hbz := hbx.out; simp only [BoxP] at hbz; have z2 := World.block_lt_of_cell? _ _ hbz.1; have Bel2 := hid (bel_step Bel.out hA.bel rfl rfl rfl rfl); replace hA := hid hA)
      | (go_at_call 15; refine (TE.out _ (by first | exact Bel.out.alloc Bel.out.size _ | exact below_drew (Bel.out.alloc Bel.out.size _))).mono ?_; rintro r w2 ⟨v2, rfl, hA⟩; replace hbx := hid ((hbx.out.alloc _).next hA.bel rfl); have hbz := hbx.out; simp only [BoxP] at hbz; have TA := hid ((Txts.made (w := w) q.hd4 Bel.out h4.out).keep hA.bel); replace hA := hid hA)
      | (refine step_app (by rfl) _ _ (by rfl) _ (by rfl) q.hd4 TA.out _ (by rfl) (fun _ => True) q.index.texts (hA.out.row hli) hlt ?_; intro pn cn w3 hn hg3; replace hbx := hid (hbx.out.grew hg3 (by simp only [Value.ownBlock, ne_eq, Option.some.injEq]; exact Nat.ne_of_gt z1)); have hbz := hbx.out; simp only [BoxP] at hbz; replace hn := hid hn; clear hg3)
      | (refine step_app (by rfl) _ _ (by rfl) _ (by rfl) q.hd4 (Txts.made (w := w) q.hd4 Bel2.out h4.out) _ (by rfl) (fun _ => True) q.index.texts ((hA.out.keep ((Below.refl _ _).alloc (Nat.le_refl _) _)).row hli) hlt ?_; intro pn cn w3 hn hg3; replace hbx := hid ((hbx.out.alloc _).grew hg3 (by simp only [Value.ownBlock, ne_eq, Option.some.injEq]; exact Nat.ne_of_gt z2)); have hbz := hbx.out; simp only [BoxP] at hbz; replace hn := hid hn; clear hg3))
  all_goals
    clear hbz hbx Bel c0 c1 c2 c3 c4 c5 c6 c7 c8 c9 c10 c11
    go_wp2_with fail
    go_ret
    exact ⟨_, rfl, by rw [et.out]; simpa using hn.out⟩
end Go.Proofs.Ytfdfeiempeciiaa
