/- The contract of emptySets: sets of nothing. -/
import Derived.Test.YtdpbapoahfggeaaDoorM17
import Derived.Deep.RegionLaw
namespace Go.Proofs.YtdpbapoahfggeaaDoor
open Go.ChangeShapes Go.WideShapes Go.ChangeAt Go.RowKit Go.Deep
set_option linter.unusedVariables false
set_option linter.unusedSimpArgs false

theorem drew_alloc (w : World) (o : Obj) : w.drew.alloc o = (w.alloc o).drew := rfl
theorem info33 : (Tryd.prog.info? 27).map (fun i => (i.zero, i.size, i.bytes)) = some (some (.slice none 0 0), 1, 24) := by kernel_rfl
theorem size35 : (Tryd.prog.info? 29).map (·.size) = some 3 := by kernel_rfl
theorem size32 : (Tryd.prog.info? 22).map (·.size) = some 1 := by kernel_rfl
/-- While rows grow: the row of rows that this call owns, and the rows beside it. -/
structure Gr (w : World) (base : Nat) (Dn : Nat → Prop) (vs : Nat → Value) (bs ns : Nat → Nat) (b0 : Nat) (row : Value) (n : Nat) (xs : List Value) : Prop where
  own : w.ownsRow b0 27 1 row n xs
  rows : Rows0 w base Dn vs bs ns
  ap : ∀ r, Dn r → ns r ≠ 0 → row.ownBlock ≠ some (bs r)
theorem Gr.kept {w w' : World} {base : Nat} {Dn : Nat → Prop} {vs : Nat → Value} {bs ns : Nat → Nat} {b0 : Nat} {row : Value} {n : Nat} {xs : List Value} (h : Gr w base Dn vs bs ns b0 row n xs) (k : Below w.heap.size w w') : Gr w' base Dn vs bs ns b0 row n xs :=
  ⟨own_keep h.own (fun g hg hl => k.block g hl), h.rows.kept k, h.ap⟩
theorem Gr.turn {w w' : World} {base : Nat} {Dn : Nat → Prop} {vs : Nat → Value} {bs ns : Nat → Nat} {b0 b : Nat} {row : Value} {n : Nat} {xs : List Value} (h : Gr w base Dn vs bs ns b0 row n xs) (k : Touch (fun i => i = b) w w') (h1 : b < b0) (h2 : ∀ r, Dn r → ns r ≠ 0 → bs r ≠ b) : Gr w' base Dn vs bs ns b0 row n xs :=
  ⟨own_keep h.own (fun g hg hl => k.block g hl (by omega)), h.rows.touch k (fun r hr hn => h2 r hr hn), h.ap⟩
/-- Behind the append of a row that was made. -/
theorem Gr.more {w w5 : World} {o : Obj} {base : Nat} {Dn Dn' : Nat → Prop} {vs vs' : Nat → Value} {bs bs' ns : Nat → Nat} {b0 : Nat} {row row' : Value} {n n' : Nat} {xs xs' : List Value} (h : Gr w base Dn vs bs ns b0 row n xs)
    (hr : Rows0 (w.alloc o) base Dn' vs' bs' ns) (hD : ∀ r, Dn' r → ns r ≠ 0 → (Dn r ∧ bs' r = bs r) ∨ bs' r = w.heap.size) (o2 : Obj) (g5 : ((w.alloc o).alloc o2).grownBy w5 row.ownBlock) (h5 : row'.ownBlock = row.ownBlock ∨ row'.ownBlock = some ((w.alloc o).alloc o2).heap.size) (o5 : w5.ownsRow b0 27 1 row' n' xs') : Gr w5 base Dn' vs' bs' ns b0 row' n' xs' := by
  have T5 := grown_touch g5 (own_keep h.own (fun g hg hl => (below2 w o o2).block g hl))
  have ne : ∀ r, Dn' r → ns r ≠ 0 → row.ownBlock ≠ some (bs' r) := fun r hd hn e => by
    rcases hD r hd hn with ⟨a, b⟩ | b
    · exact h.ap r a hn (by rw [e, b])
    · rw [b] at e
      have := (own_lt h.own e).2
      omega
  refine ⟨o5, (hr.kept ((Below.refl _ _).alloc (Nat.le_refl _) o2)).touch T5 (fun r hd hn q => ne r hd hn q), fun r hd hn e => ?_⟩
  rcases h5 with q | q
  · rw [q] at e; exact ne r hd hn e
  · rw [q] at e
    have := (hr.lt hd hn).2
    simp at e this
    omega
theorem own_keep1 {w w' : World} {base : Nat} {e : TypeId} {size : Nat} {v : Value} {n : Nat} {xs : List Value} (h : w.ownsRow base e size v n xs) (k : ∀ g, v.ownBlock = some g → w'.heap[g]? = w.heap[g]?) : w'.ownsRow base e size v n xs := by
  refine ⟨h.1, ?_⟩
  rcases h.2 with h2 | ⟨g, cap, cur, hv, hb, hg, rest⟩
  · exact .inl h2
  · exact .inr ⟨g, cap, cur, hv, hb, (k g (by rw [hv]; rfl)).trans hg, rest⟩
theorem range_put (vs : Nat → Value) (i : Nat) (v : Value) : (List.range (i + 1)).map (putV vs i v) = (List.range i).map vs ++ [v] := by
  rw [List.range_succ, List.map_append]
  congr 1
  · apply List.map_congr_left
    intro k hk
    have : k < i := by simpa using hk
    exact putV_other _ _ (by omega)
  · simp [putV_same]
theorem range_put2 (vs : Nat → Value) (m k : Nat) (v : Value) : (List.range (k + 1)).map (fun q => putV vs (m + k) v (m + q)) = (List.range k).map (fun q => vs (m + q)) ++ [v] := by
  rw [List.range_succ, List.map_append]
  congr 1
  · apply List.map_congr_left
    intro q hq
    have : q < k := by simpa using hq
    exact putV_other _ _ (by omega)
  · simp [putV_same]
theorem range_put3 (vs : Nat → Value) (n r : Nat) (v : Value) (h : n ≤ r) : (List.range n).map (putV vs r v) = (List.range n).map vs := by
  apply List.map_congr_left
  intro q hq
  have : q < n := by simpa using hq
  exact putV_other _ _ (by omega)

theorem Gr.imp' {w : World} {base : Nat} {Dn Dn' : Nat → Prop} {vs : Nat → Value} {bs ns : Nat → Nat} {b0 : Nat} {row : Value} {n : Nat} {xs : List Value} (h : Gr w base Dn vs bs ns b0 row n xs) (k : ∀ r, Dn' r → Dn r) : Gr w base Dn' vs bs ns b0 row n xs :=
  ⟨h.own, h.rows.imp k, fun r hr => h.ap r (k r hr)⟩
theorem gr_start {w W : World} {ns : Nat → Nat} {nT nG b0 : Nat} (hn : ns nT = nG) (hv : VarAt W (w.heap.size + 2) (cellsN (zeros nG)) 23) : Gr W (w.heap.size + 2) (fun r => r = nT) (fun _ => .slice (some ⟨w.heap.size + 2, 0, none⟩) nG nG) (fun _ => w.heap.size + 2) ns b0 (.slice none 0 0) 0 ((List.range 0).map (fun _ => Value.slice (some ⟨w.heap.size + 2, 0, none⟩) nG nG)) := by
  subst hn
  refine ⟨⟨rfl, .inl ⟨rfl, rfl⟩⟩, ⟨fun r hr => ?_, fun a b ha hb _ _ _ => by rw [ha, hb]⟩, fun r _ _ e => by simp [Value.ownBlock] at e⟩
  have hr' : r = nT := hr
  subst hr'
  exact ⟨_, _, rfl, fun _ => ⟨rfl, hv, Nat.le_refl _⟩⟩

set_option maxRecDepth 100000 in
set_option maxHeartbeats 2000000 in
theorem empty_any (c : Cd) (w : World) (hc : c.okW w) (g : GoodP c) :
    Calls Tryd.prog 23 #[.agg c.cells.toArray] w fun e w' => ∃ v0 v1 v2 V B, e = .returned (.agg #[v0, v1, v2]) ∧ SetsM w' w.heap.size w'.heap.size c.threads.length c.sites.length v0 v1 v2 (zeroR c) V B ∧ Below w.heap.size w w' := by
  obtain ⟨a0, p0, a1, p1, a2, p2, a3, p3, a4, p4, e0, e1, e2, e3, e4⟩ := cd_open hc
  have SR := hid (fun k s h => site_rec (c := c) g (k := k) (s := s) h)
  have SS := hid (fun i t (h : c.threads[i]? = some t) => shape_slots c h)
  have SG := hid (shape_globs c)
  have SF := hid (fun k s (h : c.sites[k]? = some s) => shape_site c h)
  have hns := fun i t (h : c.threads[i]? = some t) => (g.ths i t h).1
  have hnf := fun i r (h : c.recs[i]? = some r) => g.flds i r h
  obtain ⟨ta, tp, te, htr⟩ := RowOf.at hc.2.2.1
  rw [e2] at te
  obtain ⟨rfl, -, rfl⟩ := Value.slice.inj te
  obtain ⟨sa, sp, se, hsr⟩ := RowOf.at hc.2.2.2.1
  rw [e3] at se
  obtain ⟨rfl, -, rfl⟩ := Value.slice.inj se
  obtain ⟨ra, rp, re, hrr⟩ := RowOf.at hc.1
  rw [e0] at re
  obtain ⟨rfl, -, rfl⟩ := Value.slice.inj re
  have HTR := hid htr
  have HSR := hid hsr
  have HRR := hid hrr
  have l2 := g.l2
  have l3 := g.l3
  have l4 := g.l4
  have VC := VarAt.new w [.slice a0 c.recs.length p0, .slice a1 c.globs.length p1, .slice a2 c.threads.length p2, .slice a3 c.sites.length p3, .slice a4 c.secs.length p4] 41
  have EC : Hid (c.cells = [.slice a0 c.recs.length p0, .slice a1 c.globs.length p1, .slice a2 c.threads.length p2, .slice a3 c.sites.length p3, .slice a4 c.secs.length p4]) := hid (by unfold Cd.cells; rw [e0, e1, e2, e3, e4])
  rw [EC.out]
  clear e0 e1 e2 e3 e4 htr hsr hrr te se re hc g EC
  replace hns := hid hns
  replace hnf := hid hnf
  have LZ := hid (shape_len c)
  have ZR := hid (fun r l h => zero_row c (r := r) (l := l) h)
  have ZL : Hid ((zeroR c).length = (shapeC c).length) := hid (by unfold zeroR; simp)
  have ZN : Hid (∀ r, (zeroR c).getD r [] ≠ [] → (shapeC c).getD r 0 ≠ 0 ∧ r < (shapeC c).length) := hid (fun r h => by
    by_cases q : r < (shapeC c).length
    · have hr : r < (zeroR c).length := by rw [ZL.out]; exact q
      have : (zeroR c)[r]? = some (zeroR c)[r] := List.getElem?_eq_getElem hr
      have e := ZR.out r _ this
      rw [getD_mem' this, e] at h
      exact ⟨zeros_nil.1 h, q⟩
    · exact absurd (by simp [List.getD, List.getElem?_eq_none (by rw [ZL.out]; omega : (zeroR c).length ≤ r)]) h)
  generalize hsh : (shapeC c) = sh at *
  generalize hns' : (fun r => sh.getD r 0) = ns
  have NS : Hid (∀ r, ns r = sh.getD r 0) := hid (fun r => by rw [← hns'])
  clear hns'
  have mk1 := hid (fun W => run_make44 c.globs.length (by omega) W)
  generalize hnG : c.globs.length = nG at *
  generalize hnT : c.threads.length = nT at *
  generalize hnS : c.sites.length = nS at *
  replace hnG := hid hnG
  replace hnT := hid hnT
  replace hnS := hid hnS
  replace hsh := hid hsh
  replace VC := hid VC
  have NG : Hid (ns nT = nG) := hid (by rw [NS.out]; exact SG.out)
  have mk := mk1.out
  go_enter Tryd.func23, Tryd.ntmps23
  go_wp2_with fail
  clear mk
  have B4 := hid (below4 w (.cells #[.slice a0 c.recs.length p0, .slice a1 nG p1, .slice a2 nT p2, .slice a3 nS p3, .slice a4 c.secs.length p4] 41) (.cells #[.slice none 0 0, .slice none 0 0, .slice none 0 0] 29) (.cells (cellsN (zeros nG)).toArray 23) (.cells #[.slice none 0 0, .slice (some ⟨w.heap.size + 2, 0, none⟩) nG nG, .slice none 0 0] 29))
  have V0 := hid (((VC.out.past (.cells #[.slice none 0 0, .slice none 0 0, .slice none 0 0] 29)).past (.cells (cellsN (zeros nG)).toArray 23)).past (.cells #[.slice none 0 0, .slice (some ⟨w.heap.size + 2, 0, none⟩) nG nG, .slice none 0 0] 29))
  have V1 := ((VarAt.new (w.alloc (.cells #[.slice a0 c.recs.length p0, .slice a1 nG p1, .slice a2 nT p2, .slice a3 nS p3, .slice a4 c.secs.length p4] 41)) [.slice none 0 0, .slice none 0 0, .slice none 0 0] 29).past (.cells (cellsN (zeros nG)).toArray 23)).past (.cells #[.slice none 0 0, .slice (some ⟨w.heap.size + 2, 0, none⟩) nG nG, .slice none 0 0] 29)
  have V2 := (VarAt.new ((w.alloc (.cells #[.slice a0 c.recs.length p0, .slice a1 nG p1, .slice a2 nT p2, .slice a3 nS p3, .slice a4 c.secs.length p4] 41)).alloc (.cells #[.slice none 0 0, .slice none 0 0, .slice none 0 0] 29)) (cellsN (zeros nG)) 23).past (.cells #[.slice none 0 0, .slice (some ⟨w.heap.size + 2, 0, none⟩) nG nG, .slice none 0 0] 29)
  have V3 := VarAt.new (((w.alloc (.cells #[.slice a0 c.recs.length p0, .slice a1 nG p1, .slice a2 nT p2, .slice a3 nS p3, .slice a4 c.secs.length p4] 41)).alloc (.cells #[.slice none 0 0, .slice none 0 0, .slice none 0 0] 29)).alloc (.cells (cellsN (zeros nG)).toArray 23)) [.slice none 0 0, .slice (some ⟨w.heap.size + 2, 0, none⟩) nG nG, .slice none 0 0] 29
  simp only [World.size_alloc] at V1 V2 V3
  have G0 := hid (gr_start (ns := ns) (b0 := w.heap.size + 4) NG.out V2)
  replace V1 := hid V1
  replace V3 := hid V3
  clear V2
  go_loopw [17] (fun tt wr => ∃ (i : Nat) (sv : Value) (vs : Nat → Value) (bs : Nat → Nat), tt = .int .i64 i ∧ i ≤ nT ∧ Hid (Gr wr (w.heap.size + 2) (fun r => r < i ∨ r = nT) vs bs ns (w.heap.size + 4) sv i ((List.range i).map vs)) ∧ Hid (vs nT = .slice (some ⟨w.heap.size + 2, 0, none⟩) nG nG) ∧ Hid (∀ r, (r < i ∨ r = nT) → ns r ≠ 0 → bs r ≠ w.heap.size + 3) ∧ Hid (Below w.heap.size w wr) ∧ Hid (VarAt wr w.heap.size [.slice a0 c.recs.length p0, .slice a1 nG p1, .slice a2 nT p2, .slice a3 nS p3, .slice a4 c.secs.length p4] 41) ∧ Hid (VarAt wr (w.heap.size + 1) [.slice none 0 0, .slice none 0 0, .slice none 0 0] 29) ∧ Hid (VarAt wr (w.heap.size + 3) [sv, .slice (some ⟨w.heap.size + 2, 0, none⟩) nG nG, .slice none 0 0] 29)) (fun tt _ => nT - (intOf tt).toNat)
  case atStart => exact ⟨0, .slice none 0 0, _, _, rfl, by omega, hid (G0.out.imp' (fun r h => h.resolve_left (by omega))), hid rfl, hid (fun r h _ => by show w.heap.size + 2 ≠ _; omega), B4, V0, V1, V3⟩
  case round =>
    obtain ⟨i, sv, vs, bs, rfl, hi, GR, VN, NB, B, VA, VB, VD⟩ := hrel
    by_cases hin : i < nT
    · obtain ⟨t, tb, toff, ht, rfl, tlt, tra, tok⟩ := HTR.out i hin
      obtain ⟨asl, ps, es⟩ := tok.2.1.form
      obtain ⟨ac, pc, ec⟩ := tok.2.2.form
      have c0 : w.cell? ⟨tb, toff + i * 3, none⟩ = some t.sv := tra 0 _ rfl
      have c1 : w.cell? ⟨tb, toff + i * 3 + 1, none⟩ = some t.cv := tra 1 _ rfl
      have c2 : w.cell? ⟨tb, toff + i * 3 + 2, none⟩ = some (.int .i64 t.most) := tra 2 _ rfl
      rw [es] at c0
      rw [ec] at c1
      rw [← B.out.cell tlt] at c0 c1 c2
      have hni : ns i = t.slots.length := by rw [NS.out]; exact SS.out i t ht
      have hsl := hns.out i t ht
      have mk := fun W => run_make44 t.slots.length (by omega) W
      obtain ⟨sp', sc, rfl⟩ := own_slice GR.out.own
      have d2 := VA.out.cell 2 (v := .slice (some ⟨tb, toff, none⟩) nT p2) rfl
      have BX := ((Below.refl wr.heap.size wr).alloc (Nat.le_refl _) (.cells #[.slice asl t.slots.length ps, .slice ac t.code.length pc, .int .i64 t.most] 55)).drew
      have GX := GR.out.kept BX
      have VDX := VD.out.kept BX
      have VAX := hid (VA.out.kept BX)
      have VBX := hid (VB.out.kept BX)
      have BBX := hid (B.out.trans (BX.mono B.out.size))
      have RM := GX.rows.more i (fun q => by rcases q with q | q <;> omega) (by have := BBX.out.size; have := VDX.lt; omega)
      rw [hni] at RM
      have hXs : ((wr.alloc (.cells #[.slice asl t.slots.length ps, .slice ac t.code.length pc, .int .i64 t.most] 55)).drew).heap.size = wr.heap.size + 1 := by simp
      have e0 := VDX.cell 0 (v := .slice sp' i sc) rfl
      have e1 := (VarAt.kept (VarAt.new wr [.slice asl t.slots.length ps, .slice ac t.code.length pc, .int .i64 t.most] 55) (Below.refl (wr.alloc (.cells #[.slice asl t.slots.length ps, .slice ac t.code.length pc, .int .i64 t.most] 55)).heap.size _).drew).cell 0 (v := .slice asl t.slots.length ps) rfl
      have OX := hid (own_keep (w' := ((((wr.alloc (.cells #[.slice asl t.slots.length ps, .slice ac t.code.length pc, .int .i64 t.most] 55)).drew).alloc (.cells (cellsN (zeros t.slots.length)).toArray 23)).alloc (.cells #[.slice (some ⟨wr.heap.size + 1, 0, none⟩) t.slots.length t.slots.length] 27))) GX.own (fun g hg hl => (below2 _ _ _).block g hl))
      have RX : Hid (RowOf cellV 1 (fun _ _ => True) ((((wr.alloc (.cells #[.slice asl t.slots.length ps, .slice ac t.code.length pc, .int .i64 t.most] 55)).drew).alloc (.cells (cellsN (zeros t.slots.length)).toArray 23)).alloc (.cells #[.slice (some ⟨wr.heap.size + 1, 0, none⟩) t.slots.length t.slots.length] 27)) (.slice (some ⟨wr.heap.size + 1 + 1, 0, none⟩) 1 1) [.slice (some ⟨wr.heap.size + 1, 0, none⟩) t.slots.length t.slots.length]) := hid (RowOf.one (by
        have := BoxAt.new (((wr.alloc (.cells #[.slice asl t.slots.length ps, .slice ac t.code.length pc, .int .i64 t.most] 55)).drew).alloc (.cells (cellsN (zeros t.slots.length)).toArray 23)) #[.slice (some ⟨wr.heap.size + 1, 0, none⟩) t.slots.length t.slots.length] 27
        rw [World.size_alloc, hXs] at this
        exact this) trivial)
      have VDY := hid ((VDX.past (.cells (cellsN (zeros t.slots.length)).toArray 23)).past (.cells #[.slice (some ⟨wr.heap.size + 1, 0, none⟩) t.slots.length t.slots.length] 27))
      have hz := VDX.lt
      have hf := VDY.out.frozen 0
      replace GX := hid GX
      replace RM := hid RM
      replace VDX := hid VDX
      replace BX := hid BX
      replace ht := hid ht
      replace hni := hid hni
      clear tra tok es ec GR VA VB VD B
      have hb4 : Hid (w.heap.size + 4 ≤ (((wr.alloc (.cells #[.slice asl t.slots.length ps, .slice ac t.code.length pc, .int .i64 t.most] 55)).drew.alloc (.cells (cellsN (zeros t.slots.length)).toArray 23)).alloc (.cells #[.slice (some ⟨wr.heap.size + 1, 0, none⟩) t.slots.length t.slots.length] 27)).heap.size) := hid (by simp; omega)
      go_wp2_with fail
      generalize hYY : wr.alloc (.cells #[.slice asl t.slots.length ps, .slice ac t.code.length pc, .int .i64 t.most] 55) = Y at *
      have hYs : Y.heap.size = wr.heap.size + 1 := hXs
      clear hYY hXs d2
      have hz' : w.heap.size + 3 < Y.heap.size := hz
      have hz2 : wr.heap.size < Y.heap.size := by omega
      have ka := fun o => (Below.cell ((Below.refl Y.drew.heap.size Y.drew).alloc (Nat.le_refl _) o) (p := ⟨w.heap.size + 3, 0, none⟩) hz').trans e0
      have kb := fun o o2 => (Below.cell (below2 Y.drew o o2) (p := ⟨w.heap.size + 3, 0, none⟩) hz').trans e0
      have kc := fun o => (Below.cell ((Below.refl Y.drew.heap.size Y.drew).alloc (Nat.le_refl _) o) (p := ⟨wr.heap.size, 0, none⟩) hz2).trans e1
      have kd := fun o o2 => (Below.cell (below2 Y.drew o o2) (p := ⟨wr.heap.size, 0, none⟩) hz2).trans e1
      simp only [drew_alloc] at ka kb kc kd
      go_region_law
        (refine step_append_rowof (by rfl) _ _ 22 (by rfl) (w.heap.size + 4) 27 (.slice none 0 0) 1 24 Tryd.underlying22 info33 rfl (by decide) (.slice sp' i sc) (by rfl) i ((List.range i).map vs) OX.out _ (by rfl) (cells := cellV) (ok := fun _ _ => True) (fun _ => rfl) [.slice (some ⟨wr.heap.size + 1, 0, none⟩) t.slots.length t.slots.length] RX.out (by simp [cellV, Value.oneCell']) (by simp; omega) (by decide) hb4.out ?_
         intro v5 w5 o5 g5 h5
         rw [List.length_singleton] at o5
         have V5 := VDY.out.touch (grown_touch g5 OX.out) (fun q => by have := (own_lt OX.out q).1; omega)
         have k5 := V5.cell 0 (v := .slice sp' i sc) rfl
         have f5 := V5.frozen 0
         obtain ⟨p5, c5, rfl⟩ := own_slice o5)
      all_goals
        clear ka kb kc kd k5 f5 e0 e1 mk c0 c1 c2 hf
        have T5 := grown_touch g5 OX.out
        have T6 := Touch.setCell (T := fun b => b = w.heap.size + 3) w5 ⟨w.heap.size + 3, 0, none⟩ (.slice p5 (i + 1) c5) rfl
        have K2 := below2 Y.drew (.cells (cellsN (zeros t.slots.length)).toArray 23) (.cells #[.slice (some ⟨wr.heap.size + 1, 0, none⟩) t.slots.length t.slots.length] 27)
        have hYd : Y.drew.heap.size = wr.heap.size + 1 := hYs
        have nob : ∀ b, b < w.heap.size + 4 → ¬ (Value.slice sp' i sc).ownBlock = some b := fun b hb q => by have := (own_lt OX.out q).1; omega
        rw [flat_cellV, ← hYd, ← range_put vs i] at o5
        have GM := Gr.more GX.out RM.out (fun r hd hn => by
          by_cases e : r = i
          · rw [e, putV_same]; exact .inr rfl
          · rw [putV_other _ _ e]; exact .inl ⟨hd.resolve_right e, rfl⟩) _ g5 h5 o5
        have NB2 : ∀ r, ((r < i ∨ r = nT) ∨ r = i) → ns r ≠ 0 → putV bs i Y.drew.heap.size r ≠ w.heap.size + 3 := fun r hd hn => by
          by_cases e : r = i
          · rw [e, putV_same]; omega
          · rw [putV_other _ _ e]; exact NB.out r (hd.resolve_right e) hn
        have G6 := hid ((GM.turn T6 (by omega) NB2).imp' (Dn' := fun r => r < i + 1 ∨ r = nT) (fun r h => by omega))
        have VA6 := hid (((VAX.out.kept K2).touch T5 (nob _ (by omega))).touch T6 (by omega))
        have VB6 := hid (((VBX.out.kept K2).touch T5 (nob _ (by omega))).touch T6 (by omega))
        have VD6 := hid (V5.set 0 (.slice p5 (i + 1) c5))
        have B6 := hid (below_touch (below_touch (BBX.out.trans (K2.mono BBX.out.size)) T5 (fun b hb => nob b (by omega))) T6 (fun b hb => by omega))
        have VN6 := hid ((putV_other vs (.slice (some ⟨Y.drew.heap.size, 0, none⟩) t.slots.length t.slots.length) (by omega : nT ≠ i)).trans VN.out)
        clear T5 T6 K2 GM o5 g5 h5 V5 nob
        go_wp2_with fail
        go_roundw
        case rel => exact ⟨i + 1, .slice p5 (i + 1) c5, _, _, by go_num, by omega, G6, VN6, hid (fun r h hn => NB2 r (by omega) hn), B6, VA6, VB6, VD6⟩
        case measure => simp [intOf]; omega
    · have ei : i = nT := by omega
      subst ei
      obtain ⟨sp', sc, rfl⟩ := own_slice GR.out.own
      have GF := hid (⟨⟨rfl, .inl ⟨rfl, rfl⟩⟩, GR.out.rows.imp (fun r (h : r < i + 1 + 0) => by omega), fun r _ _ e => by simp [Value.ownBlock] at e⟩ : Gr wr (w.heap.size + 2) (fun r => r < i + 1 + 0) vs bs ns wr.heap.size (.slice none 0 0) 0 ((List.range 0).map (fun q => vs (i + 1 + q))))
      have SA := hid (fun r (h : r < i + 1 + 0) hn => GR.out.ap r (by omega) hn)
      have SL := hid GR.out.own
      have NB2 := hid (fun r (h : r < i + 1 + 0) hn => NB.out r (by omega) hn)
      have SLT := hid (fun q (hq : (Value.slice sp' i sc).ownBlock = some q) => (own_lt GR.out.own hq).2)
      have d3 := VA.out.cell 3 (v := .slice a3 nS p3) rfl
      have hz3 := VD.out.lt
      replace hz3 := hid hz3
      clear GR NB HTR
      go_wp2_with fail
      obtain ⟨wz, rfl⟩ : ∃ wz : World, wz = wr := ⟨wr, rfl⟩
      have hw0 := hid (Nat.le_refl wz.heap.size)
      go_loopw [34] (fun tt wr => ∃ (k : Nat) (fv : Value) (vs : Nat → Value) (bs : Nat → Nat), tt = .int .i64 k ∧ k ≤ nS ∧ Hid (Gr wr (w.heap.size + 2) (fun r => r < i + 1 + k) vs bs ns wz.heap.size fv k ((List.range k).map (fun q => vs (i + 1 + q)))) ∧ Hid (wr.ownsRow (w.heap.size + 4) 27 1 (.slice sp' i sc) i ((List.range i).map vs)) ∧ Hid (∀ r, r < i + 1 + k → ns r ≠ 0 → (Value.slice sp' i sc).ownBlock ≠ some (bs r)) ∧ Hid (vs i = .slice (some ⟨w.heap.size + 2, 0, none⟩) nG nG) ∧ Hid (∀ r, r < i + 1 + k → ns r ≠ 0 → bs r ≠ w.heap.size + 3) ∧ Hid (Below w.heap.size w wr) ∧ Hid (VarAt wr w.heap.size [.slice a0 c.recs.length p0, .slice a1 nG p1, .slice a2 i p2, .slice a3 nS p3, .slice a4 c.secs.length p4] 41) ∧ Hid (VarAt wr (w.heap.size + 1) [.slice none 0 0, .slice none 0 0, .slice none 0 0] 29) ∧ Hid (VarAt wr (w.heap.size + 3) [.slice sp' i sc, .slice (some ⟨w.heap.size + 2, 0, none⟩) nG nG, fv] 29) ∧ Hid (wz.heap.size ≤ wr.heap.size)) (fun tt _ => nS - (intOf tt).toNat)
      case atStart => exact ⟨0, .slice none 0 0, vs, bs, rfl, by omega, GF, SL, SA, VN, NB2, B, VA, VB, VD, hw0⟩
      case round =>
        clear GF SL SA VN NB2 B VA VB VD hw0 d3
        obtain ⟨k, fv, vs, bs, rfl, hk, GR, SL, SA, VN, NB, B, VA, VB, VD, hwz⟩ := hrel
        by_cases hkn : k < nS
        · obtain ⟨st, eb, eoff, hst, rfl, elt, era, eok⟩ := HSR.out k hkn
          have c0 : w.cell? ⟨eb, eoff + k * 3, none⟩ = some (.int .i64 st.th) := era 0 _ rfl
          have c1 : w.cell? ⟨eb, eoff + k * 3 + 1, none⟩ = some (.int .i64 st.pl) := era 1 _ rfl
          have c2 : w.cell? ⟨eb, eoff + k * 3 + 2, none⟩ = some (.int .i64 st.rc) := era 2 _ rfl
          rw [← B.out.cell elt] at c0 c1 c2
          have hnr : ns (i + 1 + k) = fldN c st := by rw [NS.out]; exact SF.out k st hst
          obtain ⟨fp, fc, rfl⟩ := own_slice GR.out.own
          have GR2 := GR
          have d1 := VD.out.cell 2 (v := .slice fp k fc) rfl
          have hz4 := VD.out.lt
          have hz5 := VA.out.lt
          have hsr := SR.out k st hst
          obtain ⟨sth, spl, src⟩ := st
          simp only [Ste.cells] at *
          rcases hsr with rfl | ⟨r, rfl, hrl⟩
          · have hn0 : ns (i + 1 + k) = 0 := by rw [hnr]; rfl
            have KX := below2 wr (.cells #[.int .i64 sth, .int .i64 spl, .int .i64 (-1)] 66) (.cells #[.slice none 0 0] 27)
            have RM := hid ((GR.out.rows.kept ((Below.refl wr.heap.size wr).alloc (Nat.le_refl _) (.cells #[.int .i64 sth, .int .i64 spl, .int .i64 (-1)] 66))).none (i + 1 + k) (by omega) hn0)
            replace hnr := hid hnr
            replace hst := hid hst
            clear era eok
            have OX := hid (own_keep (w' := (wr.alloc (.cells #[.int .i64 sth, .int .i64 spl, .int .i64 (-1)] 66)).alloc (.cells #[.slice none 0 0] 27)) GR2.out.own (fun g hg hl => KX.block g hl))
            have RX : Hid (RowOf cellV 1 (fun _ _ => True) ((wr.alloc (.cells #[.int .i64 sth, .int .i64 spl, .int .i64 (-1)] 66)).alloc (.cells #[.slice none 0 0] 27)) (.slice (some ⟨wr.heap.size + 1, 0, none⟩) 1 1) [.slice none 0 0]) := hid (RowOf.one (by
              have := BoxAt.new ((wr.alloc (.cells #[.int .i64 sth, .int .i64 spl, .int .i64 (-1)] 66))) #[.slice none 0 0] 27
              simp only [World.size_alloc] at this
              exact this) trivial)
            have VDX := hid (VD.out.kept KX)
            have VAX := hid (VA.out.kept KX)
            have VBX := hid (VB.out.kept KX)
            have BBX := hid (B.out.trans (KX.mono B.out.size))
            have SLX := hid (own_keep SL.out (fun g hg hl => KX.block g hl))
            have hbz : Hid (wz.heap.size ≤ ((wr.alloc (.cells #[.int .i64 sth, .int .i64 spl, .int .i64 (-1)] 66)).alloc (.cells #[.slice none 0 0] 27)).heap.size) := hid (Nat.le_trans hwz.out KX.size)
            go_wp2_with (first
              | (at_builtin; refine wl_append_row rfl _ _ 22 rfl wz.heap.size 27 (.slice none 0 0) 1 24 Tryd.underlying22 info33 rfl (by decide) (.slice fp k fc) rfl k ((List.range k).map (fun q => vs (i + 1 + q))) OX.out _ rfl (cells := cellV) (ok := fun _ _ => True) (fun _ => rfl) [.slice none 0 0] RX.out (by simp [cellV, Value.oneCell']) (by simp; omega) (by decide) hbz.out ?_; intro v5 w5 o5 g5 h5; rw [List.length_singleton] at o5; have V5 := hid (VDX.out.touch (grown_touch g5 OX.out) (fun q => by have := (own_lt OX.out q).1; have := hz3.out; omega)); obtain ⟨p5, c5, rfl⟩ := own_slice o5)
              | (refine wl_store_cell 22 _ _ rfl rfl (w.heap.size + 3) 2 rfl (.slice p5 (k + 1) c5) rfl size32 rfl _ _ V5.out (by simp) ?_; intro w6 V6 T6))
            have T5 := grown_touch g5 OX.out
            have U6 : Touch (fun b => b = w.heap.size + 3) w5 w6 := ⟨T6.os, T6.tape, T6.output, Nat.le_of_eq T6.size.symm, fun b _ hb => T6.block b hb⟩
            have z3 := hz3.out
            have nob : ∀ b, b < wz.heap.size → ¬ (Value.slice fp k fc).ownBlock = some b := fun b hb q => by have := (own_lt OX.out q).1; omega
            rw [flat_cellV, ← range_put2 vs (i + 1) k] at o5
            have GM := Gr.more (bs' := bs) GR.out RM.out (fun r' hd hn => by
              by_cases e : r' = i + 1 + k
              · rw [e] at hn; exact absurd hn0 hn
              · exact .inl ⟨hd.resolve_right e, rfl⟩) _ g5 h5 o5
            have NB2 : ∀ r', (r' < i + 1 + k ∨ r' = i + 1 + k) → ns r' ≠ 0 → (bs) r' ≠ w.heap.size + 3 := fun r' hd hn => by
              by_cases e : r' = i + 1 + k
              · rw [e] at hn; exact absurd hn0 hn
              · exact NB.out r' (hd.resolve_right e) hn
            have G6 := hid ((GM.turn U6 z3 NB2).imp' (Dn' := fun r' => r' < i + 1 + (k + 1)) (fun r' h => by omega))
            have SL6 := own_keep1 (own_keep1 SLX.out (fun g hg => T5.block g (own_lt SLX.out hg).2 (nob g (SLT.out g hg)))) (w' := w6) (fun g hg => T6.block g (fun e => by have := (own_lt SL.out hg).1; omega))
            rw [← range_put3 vs i (i + 1 + k) (.slice none 0 0) (by omega)] at SL6
            have SA6 : ∀ r', r' < i + 1 + (k + 1) → ns r' ≠ 0 → (Value.slice sp' i sc).ownBlock ≠ some ((bs) r') := fun r' hd hn => by
              by_cases e : r' = i + 1 + k
              · rw [e] at hn; exact absurd hn0 hn
              · exact SA.out r' (by omega) hn
            have VA6 := hid ((VAX.out.touch T5 (nob _ (by omega))).touch U6 (by omega))
            have VB6 := hid ((VBX.out.touch T5 (nob _ (by omega))).touch U6 (by omega))
            have B6 := hid (below_touch (below_touch BBX.out T5 (fun b hb => nob b (by omega))) U6 (fun b hb => by omega))
            have VN6 := hid ((putV_other vs (.slice none 0 0) (by omega : i ≠ i + 1 + k)).trans VN.out)
            have Z6 := hid (Nat.le_trans hbz.out (Nat.le_trans T5.size U6.size))
            replace SL6 := hid SL6
            replace SA6 := hid SA6
            replace V6 := hid V6
            clear T5 GM o5 g5 h5 V5 nob
            go_roundw
            case rel => exact ⟨k + 1, .slice p5 (k + 1) c5, _, _, by go_num, by omega, G6, SL6, SA6, VN6, hid (fun r' h hn => NB2 r' (by omega) hn), B6, VA6, VB6, V6, Z6⟩
            case measure => simp [intOf]; omega
          · obtain ⟨rl, rb, ro, hrr2, rfl, rlt, rra, rok⟩ := HRR.out r hrl
            obtain ⟨fa, fp2, fe⟩ := rok.form
            have c3 : w.cell? ⟨rb, ro + r, none⟩ = some rl.fv := by have := rra 0 _ rfl; rw [Nat.mul_one] at this; exact this
            rw [fe] at c3
            rw [← B.out.cell rlt] at c3
            have d0 := VA.out.cell 0 (v := .slice (some ⟨rb, ro, none⟩) c.recs.length p0) rfl
            have hrb : rb < wr.heap.size := by have := B.out.size; omega
            have hnf2 := hnf.out r rl hrr2
            have hn0 : ns (i + 1 + k) = rl.flds.length := by
              rw [hnr]
              unfold fldN
              rw [if_neg (by simp only []; omega)]
              simp [List.getD, hrr2]
            have mk := fun W => run_make44 rl.flds.length (by omega) W
            have hr0 : ¬ ((r : Int) < 0) := by omega
            have hr1 : (r : Int) < (c.recs.length : Int) := by omega
            have KX := below3 wr (.cells #[.int .i64 sth, .int .i64 spl, .int .i64 (r : Int)] 66) (.cells (cellsN (zeros rl.flds.length)).toArray 23) (.cells #[.slice (some ⟨wr.heap.size + 1, 0, none⟩) rl.flds.length rl.flds.length] 27)
            have d1b := (Below.cell (below2 wr (.cells #[.int .i64 sth, .int .i64 spl, .int .i64 (r : Int)] 66) (.cells (cellsN (zeros rl.flds.length)).toArray 23)) (p := ⟨w.heap.size + 3, 2, none⟩) hz4).trans d1
            have GY := hid (GR.out.kept ((Below.refl wr.heap.size wr).alloc (Nat.le_refl _) (.cells #[.int .i64 sth, .int .i64 spl, .int .i64 (r : Int)] 66)))
            have RM := GY.out.rows.more (i + 1 + k) (by omega) (by have := B.out.size; simp; omega)
            rw [hn0] at RM
            simp only [World.size_alloc] at RM
            replace RM := hid RM
            replace hnr := hid hnr
            replace hst := hid hst
            replace hrr2 := hid hrr2
            replace fe := hid fe
            replace hn0 := hid hn0
            clear era eok rra rok
            have OX := hid (own_keep (w' := ((wr.alloc (.cells #[.int .i64 sth, .int .i64 spl, .int .i64 (r : Int)] 66)).alloc (.cells (cellsN (zeros rl.flds.length)).toArray 23)).alloc (.cells #[.slice (some ⟨wr.heap.size + 1, 0, none⟩) rl.flds.length rl.flds.length] 27)) GR2.out.own (fun g hg hl => KX.block g hl))
            have RX : Hid (RowOf cellV 1 (fun _ _ => True) (((wr.alloc (.cells #[.int .i64 sth, .int .i64 spl, .int .i64 (r : Int)] 66)).alloc (.cells (cellsN (zeros rl.flds.length)).toArray 23)).alloc (.cells #[.slice (some ⟨wr.heap.size + 1, 0, none⟩) rl.flds.length rl.flds.length] 27)) (.slice (some ⟨wr.heap.size + 1 + 1, 0, none⟩) 1 1) [.slice (some ⟨wr.heap.size + 1, 0, none⟩) rl.flds.length rl.flds.length]) := hid (RowOf.one (by
              have := BoxAt.new (((wr.alloc (.cells #[.int .i64 sth, .int .i64 spl, .int .i64 (r : Int)] 66)).alloc (.cells (cellsN (zeros rl.flds.length)).toArray 23))) #[.slice (some ⟨wr.heap.size + 1, 0, none⟩) rl.flds.length rl.flds.length] 27
              simp only [World.size_alloc] at this
              exact this) trivial)
            have VDX := hid (VD.out.kept KX)
            have VAX := hid (VA.out.kept KX)
            have VBX := hid (VB.out.kept KX)
            have BBX := hid (B.out.trans (KX.mono B.out.size))
            have SLX := hid (own_keep SL.out (fun g hg hl => KX.block g hl))
            have hbz : Hid (wz.heap.size ≤ (((wr.alloc (.cells #[.int .i64 sth, .int .i64 spl, .int .i64 (r : Int)] 66)).alloc (.cells (cellsN (zeros rl.flds.length)).toArray 23)).alloc (.cells #[.slice (some ⟨wr.heap.size + 1, 0, none⟩) rl.flds.length rl.flds.length] 27)).heap.size) := hid (Nat.le_trans hwz.out KX.size)
            go_wp2_with (first
              | (at_builtin; refine wl_append_row rfl _ _ 22 rfl wz.heap.size 27 (.slice none 0 0) 1 24 Tryd.underlying22 info33 rfl (by decide) (.slice fp k fc) rfl k ((List.range k).map (fun q => vs (i + 1 + q))) OX.out _ rfl (cells := cellV) (ok := fun _ _ => True) (fun _ => rfl) [.slice (some ⟨wr.heap.size + 1, 0, none⟩) rl.flds.length rl.flds.length] RX.out (by simp [cellV, Value.oneCell']) (by simp; omega) (by decide) hbz.out ?_; intro v5 w5 o5 g5 h5; rw [List.length_singleton] at o5; have V5 := hid (VDX.out.touch (grown_touch g5 OX.out) (fun q => by have := (own_lt OX.out q).1; have := hz3.out; omega)); obtain ⟨p5, c5, rfl⟩ := own_slice o5)
              | (refine wl_store_cell 22 _ _ rfl rfl (w.heap.size + 3) 2 rfl (.slice p5 (k + 1) c5) rfl size32 rfl _ _ V5.out (by simp) ?_; intro w6 V6 T6))
            have T5 := grown_touch g5 OX.out
            have U6 : Touch (fun b => b = w.heap.size + 3) w5 w6 := ⟨T6.os, T6.tape, T6.output, Nat.le_of_eq T6.size.symm, fun b _ hb => T6.block b hb⟩
            have z3 := hz3.out
            have nob : ∀ b, b < wz.heap.size → ¬ (Value.slice fp k fc).ownBlock = some b := fun b hb q => by have := (own_lt OX.out q).1; omega
            rw [flat_cellV, ← range_put2 vs (i + 1) k] at o5
            have GM := Gr.more (bs' := putV bs (i + 1 + k) (wr.heap.size + 1)) GY.out RM.out (fun r' hd hn => by
              by_cases e : r' = i + 1 + k
              · rw [e, putV_same]; exact .inr (by simp)
              · rw [putV_other _ _ e]; exact .inl ⟨hd.resolve_right e, rfl⟩) _ g5 h5 o5
            have NB2 : ∀ r', (r' < i + 1 + k ∨ r' = i + 1 + k) → ns r' ≠ 0 → (putV bs (i + 1 + k) (wr.heap.size + 1)) r' ≠ w.heap.size + 3 := fun r' hd hn => by
              by_cases e : r' = i + 1 + k
              · rw [e, putV_same]; omega
              · rw [putV_other _ _ e]; exact NB.out r' (hd.resolve_right e) hn
            have G6 := hid ((GM.turn U6 z3 NB2).imp' (Dn' := fun r' => r' < i + 1 + (k + 1)) (fun r' h => by omega))
            have SL6 := own_keep1 (own_keep1 SLX.out (fun g hg => T5.block g (own_lt SLX.out hg).2 (nob g (SLT.out g hg)))) (w' := w6) (fun g hg => T6.block g (fun e => by have := (own_lt SL.out hg).1; omega))
            rw [← range_put3 vs i (i + 1 + k) (.slice (some ⟨wr.heap.size + 1, 0, none⟩) rl.flds.length rl.flds.length) (by omega)] at SL6
            have SA6 : ∀ r', r' < i + 1 + (k + 1) → ns r' ≠ 0 → (Value.slice sp' i sc).ownBlock ≠ some ((putV bs (i + 1 + k) (wr.heap.size + 1)) r') := fun r' hd hn => by
              by_cases e : r' = i + 1 + k
              · rw [e, putV_same]; intro q; have := SLT.out _ q; have := hwz.out; omega
              · rw [putV_other _ _ e]; exact SA.out r' (by omega) hn
            have VA6 := hid ((VAX.out.touch T5 (nob _ (by omega))).touch U6 (by omega))
            have VB6 := hid ((VBX.out.touch T5 (nob _ (by omega))).touch U6 (by omega))
            have B6 := hid (below_touch (below_touch BBX.out T5 (fun b hb => nob b (by omega))) U6 (fun b hb => by omega))
            have VN6 := hid ((putV_other vs (.slice (some ⟨wr.heap.size + 1, 0, none⟩) rl.flds.length rl.flds.length) (by omega : i ≠ i + 1 + k)).trans VN.out)
            have Z6 := hid (Nat.le_trans hbz.out (Nat.le_trans T5.size U6.size))
            replace SL6 := hid SL6
            replace SA6 := hid SA6
            replace V6 := hid V6
            clear T5 GM o5 g5 h5 V5 nob
            go_roundw
            case rel => exact ⟨k + 1, .slice p5 (k + 1) c5, _, _, by go_num, by omega, G6, SL6, SA6, VN6, hid (fun r' h hn => NB2 r' (by omega) hn), B6, VA6, VB6, V6, Z6⟩
            case measure => simp [intOf]; omega
        · have ek : k = nS := by omega
          subst ek
          obtain ⟨fp, fc, rfl⟩ := own_slice GR.out.own
          have d0 := VD.out.cell 0 (v := .slice sp' i sc) rfl
          have d1 := VD.out.cell 1 (v := .slice (some ⟨w.heap.size + 2, 0, none⟩) nG nG) rfl
          have d2 := VD.out.cell 2 (v := .slice fp k fc) rfl
          have z3 := hz3.out
          clear HSR HRR
          go_wp2_with (refine wl_store_box 29 _ _ rfl rfl (w.heap.size + 1) rfl [.slice sp' i sc, .slice (some ⟨w.heap.size + 2, 0, none⟩) nG nG, .slice fp k fc] rfl size35 (by simp [Value.oneCell']) _ _ VB.out rfl rfl ?_; intro w6 hv ht)
          try simp only [Act.put]
          refine bodyPost_ret (results_cell_row rfl _ _ (w.heap.size + 1) _ _ _ _ rfl hv Tryd.underlying29 rfl (by kernel_rfl)) rfl ?_
          have U6 : Touch (fun b => b = w.heap.size + 1) wr w6 := ⟨ht.os, ht.tape, ht.output, Nat.le_of_eq ht.size.symm, fun b _ hb => ht.block b hb⟩
          have R6 := GR.out.rows.touch U6 (fun r hr hn => by have := (GR.out.rows.lt hr hn).1; omega)
          have F6 := own_keep GR.out.own (w' := w6) (fun g hg hl => ht.block g (by omega))
          have S6 := own_keep SL.out (w' := w6) (fun g hg hl => ht.block g (by omega))
          have hlen : (zeroR c).length = i + 1 + k := by rw [ZL.out]; exact LZ.out
          have hin6 : ∀ r, (zeroR c).getD r [] ≠ [] → r < i + 1 + k ∧ ns r ≠ 0 := fun r h => by
            obtain ⟨q1, q2⟩ := ZN.out r h
            exact ⟨by have := LZ.out; omega, by rw [NS.out]; exact q1⟩
          refine ⟨_, _, _, vs, bs, rfl, ⟨hlen, fun r l hr => ?_, VN.out.symm, ?_, ?_, fun r r' h1 h2 e => ?_, fun r h => ?_⟩, below_touch B.out U6 (fun b hb => by omega)⟩
          · have hr2 := (List.getElem?_eq_some_iff.1 hr).1
            have el := ZR.out r l hr
            obtain ⟨a, cp, q1, q2⟩ := R6.row r (by omega)
            rw [NS.out] at q1 q2
            refine ⟨a, cp, by rw [q1, el]; simp [zeros], fun hne => ?_⟩
            rw [el] at hne ⊢
            exact ⟨(q2 (zeros_nil.1 hne)).1, (q2 (zeros_nil.1 hne)).2.1⟩
          · exact out_own S6 (by omega) (Nat.le_refl _) (fun q hq ⟨r, h1, h2⟩ => SA.out r (hin6 r h1).1 (hin6 r h1).2 (by rw [← h2]; exact hq))
          · exact out_own F6 (by omega) (Nat.le_refl _) (fun q hq ⟨r, h1, h2⟩ => GR.out.ap r (hin6 r h1).1 (hin6 r h1).2 (by rw [← h2]; exact hq))
          · exact R6.sep r r' (hin6 r h1).1 (hin6 r' h2).1 (hin6 r h1).2 (hin6 r' h2).2 e
          · have := R6.lt (hin6 r h).1 (hin6 r h).2
            omega
end Go.Proofs.YtdpbapoahfggeaaDoor
