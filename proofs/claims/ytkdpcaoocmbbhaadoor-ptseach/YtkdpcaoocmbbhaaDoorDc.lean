/- The document's Has, Means, Dst. -/
import Derived.Test.YtkdpcaoocmbbhaaDoorSv
namespace Go.Proofs.YtkdpcaoocmbbhaaDoor
open Go.ChangeShapes Go.WideShapes Go.ChangeAt Go.RowKit
set_option linter.unusedVariables false
set_option linter.unusedSimpArgs false

theorem shr_bit (a k : Nat) : (((a : Int) / 2 ^ k).tmod 2 == 1) = a.testBit k := by
  have e : ((a : Int) / 2 ^ k) = ((a / 2 ^ k : Nat) : Int) := by
    rw [Int.natCast_ediv, Int.natCast_pow]; rfl
  rw [e, Nat.testBit_eq_decide_div_mod_eq]
  generalize a / 2 ^ k = x
  rw [show ((x : Int).tmod 2) = ((x % 2 : Nat) : Int) by simp [Int.tmod_eq_emod_of_nonneg]]
  rw [Bool.eq_iff_iff]
  simp only [beq_iff_eq, decide_eq_true_eq]
  omega
def hasB (a : Nat) (k : Int) : Bool := decide (0 ≤ k ∧ k < 64) && a.testBit k.toNat
theorem hasB_nat (a k : Nat) (h : k < 64) : hasB a (k : Int) = a.testBit k := by
  unfold hasB
  rw [decide_eq_true (by omega), Bool.true_and, Int.toNat_natCast]

set_option maxHeartbeats 1000000 in
theorem hasS_any (a : Nat) (ha : a < 2 ^ 64) (k : Int) (w : World) : Calls Tryd.prog 18 #[.int .u64 (a : Int), .int .i64 k] w fun e w' => e = .returned (.bool (hasB a k)) ∧ w' = w := by
  go_enter Tryd.func18, Tryd.ntmps18
  go_wp2
  all_goals
    go_ret
    refine ⟨retB ?_, rfl⟩
    unfold hasB
  · rw [shr_bit, decide_eq_true (by omega), Bool.true_and]
  · rw [decide_eq_false (by omega), Bool.false_and]
  · rw [decide_eq_false (by omega), Bool.false_and]

set_option maxHeartbeats 1000000 in
theorem means_any (l : Loc) (w : World) : Calls Tryd.prog 30 #[.agg l.cells.toArray] w fun e w' => e = .returned (.bool (meansL l)) ∧ Below w.heap.size w w' := by
  obtain ⟨kd, rc, sh⟩ := l
  have B := hid ((Below.refl w.heap.size w).alloc (Nat.le_refl _) (.cells (Loc.cells ⟨kd, rc, sh⟩).toArray 56))
  simp only [Loc.cells] at B ⊢
  go_enter Tryd.func30, Tryd.ntmps30
  go_wp2
  all_goals
    go_ret
    refine ⟨retB ?_, by first | exact B.out | exact (Below.refl _ _).alloc (Nat.le_refl _) _⟩
    first | rfl | (unfold meansL; simp [*])

/-- Whether an instruction has a Dst to which something may come. -/
def dstB (b : Bd) (x : Ins) : Bool := hasD x.op && meansL (slotOf b x)
set_option maxRecDepth 100000 in
set_option maxHeartbeats 4000000 in
theorem dst_any (c : Cd) (i k : Nat) (b : Bd) (x : Ins) (w : World) (hc : c.okW w) (g : GoodP c) (hb : c.threads[i]? = some b) (hx : b.code[k]? = some x) :
    Calls Tryd.prog 28 #[.agg c.cells.toArray, .int .i64 (i : Int), .agg x.cells.toArray] w fun e w' => e = .returned (.bool (dstB b x)) ∧ Below w.heap.size w w' := by
  have F := ins_facts g hb hx
  have hi := (List.getElem?_eq_some_iff.1 hb).1
  obtain ⟨a0, p0, a1, p1, a2, p2, a3, p3, a4, p4, e0, e1, e2, e3, e4⟩ := cd_open hc
  obtain ⟨ia, ii, ip, xa, xi, xp, ei, ex⟩ := ins_forms hc hb hx
  have EC : c.cells = [.slice a0 c.recs.length p0, .slice a1 c.globs.length p1, .slice a2 c.threads.length p2, .slice a3 c.sites.length p3, .slice a4 c.secs.length p4] := by unfold Cd.cells; rw [e0, e1, e2, e3, e4]
  have EX : x.cells = [.int .i64 x.op, .int .i64 x.dst, .int .i64 x.src, .int .i64 x.rc, .int .i64 x.n, .int .i64 x.to, .slice ia ii ip, .slice xa xi xp] := by unfold Ins.cells; rw [ei, ex]
  obtain ⟨ta, tp, te, htr⟩ := RowOf.at hc.2.2.1
  rw [e2] at te
  obtain ⟨rfl, -, rfl⟩ := Value.slice.inj te
  obtain ⟨b', tb, tf, hb', rfl, tlt, tra, tok⟩ := htr i hi
  rw [hb] at hb'
  cases hb'
  obtain ⟨la, ps, es, hlr⟩ := locs_at tok.2.1
  have t0 : w.cell? ⟨tb, tf + i * 3, none⟩ = some b.sv := tra 0 _ rfl
  rw [es] at t0
  rw [EC, EX]
  have VE := (VarAt.new (w.alloc (.cells #[.slice a0 c.recs.length p0, .slice a1 c.globs.length p1, .slice (some ⟨tb, tf, none⟩) c.threads.length p2, .slice a3 c.sites.length p3, .slice a4 c.secs.length p4] 28)) [.int .i64 x.op, .int .i64 x.dst, .int .i64 x.src, .int .i64 x.rc, .int .i64 x.n, .int .i64 x.to, .slice ia ii ip, .slice xa xi xp] 50)
  have VC := ((VarAt.new w [.slice a0 c.recs.length p0, .slice a1 c.globs.length p1, .slice (some ⟨tb, tf, none⟩) c.threads.length p2, .slice a3 c.sites.length p3, .slice a4 c.secs.length p4] 28).past (.cells #[.int .i64 x.op, .int .i64 x.dst, .int .i64 x.src, .int .i64 x.rc, .int .i64 x.n, .int .i64 x.to, .slice ia ii ip, .slice xa xi xp] 50))
  simp only [World.size_alloc] at VE
  have BX := hid (below2 w (.cells #[.slice a0 c.recs.length p0, .slice a1 c.globs.length p1, .slice (some ⟨tb, tf, none⟩) c.threads.length p2, .slice a3 c.sites.length p3, .slice a4 c.secs.length p4] 28) (.cells #[.int .i64 x.op, .int .i64 x.dst, .int .i64 x.src, .int .i64 x.rc, .int .i64 x.n, .int .i64 x.to, .slice ia ii ip, .slice xa xi xp] 50))
  by_cases hD' : x.op = 1 ∨ x.op = 2 ∨ x.op = 3 ∨ x.op = 8 ∨ x.op = 9
  rotate_left
  · have hq : dstB b x = false := by
      unfold dstB
      cases hD : hasD x.op
      · rfl
      · have : x.op = 4 ∨ x.op = 10 := by simp only [hasD, Bool.or_eq_true, beq_iff_eq] at hD; omega
        rw [op4_no g hb hx this]; rfl
    rw [hq]
    have n1 : ¬ x.op = 1 := fun e => hD' (by omega)
    have n2 : ¬ x.op = 2 := fun e => hD' (by omega)
    have n3 : ¬ x.op = 3 := fun e => hD' (by omega)
    have n8 : ¬ x.op = 8 := fun e => hD' (by omega)
    have n9 : ¬ x.op = 9 := fun e => hD' (by omega)
    clear F hi e0 e1 e2 e3 e4 ei ex EC EX te htr tra tok es hlr t0 tlt hx hb hc g hq hD'
    replace VE := hid VE
    replace VC := hid VC
    go_enter Tryd.func28, Tryd.ntmps28
    go_wp2
    go_ret
    exact ⟨rfl, BX.out⟩
  · have hD : hasD x.op = true := by rcases hD' with h | h | h | h | h <;> (rw [h]; rfl)
    obtain ⟨d, hd, hdl⟩ := F.d hD
    obtain ⟨l, hl⟩ : ∃ l, b.slots[d]? = some l := ⟨b.slots[d], by simp [hdl]⟩
    obtain ⟨lb, lo, rfl, llt, _, l0, l1, l2⟩ := hlr d l hl
    have hq : dstB b x = meansL l := by unfold dstB slotOf; rw [hD, hd, Int.toNat_natCast, Bool.true_and]; simp [List.getD, hl]
    rw [hq]
    rcases hD' with hop | hop | hop | hop | hop
    all_goals
      rw [hd, hop] at VE VC BX ⊢
      have d2 := (VC.kept (Below.refl _ _).drew).cell 2 (v := .slice (some ⟨tb, tf, none⟩) c.threads.length p2) rfl
      have e1 := (VE.kept (Below.refl _ _).drew).cell 1 (v := .int .i64 (d : Int)) rfl
      have hdi : (d : Int) < (b.slots.length : Int) := by omega
      have hii : (i : Int) < (c.threads.length : Int) := by omega
      replace BX := hid BX.out.drew
      rw [← BX.out.cell tlt] at t0
      rw [← BX.out.cell llt] at l0 l1 l2
      have q2 := World.block_lt_of_cell? _ _ d2
      have q3 := World.block_lt_of_cell? _ _ e1
      have q4 := World.block_lt_of_cell? _ _ t0
      have q5 := World.block_lt_of_cell? _ _ l0
      replace VE := hid VE
      replace VC := hid VC
      replace hD := hid hD
      clear F e0 e2 e3 e4 ei ex EC EX te htr tra tok es hlr hx hb hc g hq hd
      have v0 := VE.out.cell 0 rfl
      clear hop
      go_enter Tryd.func28, Tryd.ntmps28
      go_wp2_with fail
      refine wp_region_held_drew (S := fun (w' : World) => w'.cell? ⟨w.heap.size, 2, none⟩ = some (.slice (some ⟨tb, tf, none⟩) c.threads.length p2) ∧ w'.cell? ⟨w.heap.size + 1, 1, none⟩ = some (.int .i64 (d : Int)) ∧ w'.cell? ⟨tb, tf + i * 3, none⟩ = some (.slice (some ⟨lb, lo, none⟩) b.slots.length ps) ∧ w'.cell? ⟨lb, lo + d * 3, none⟩ = some (.int .i64 l.kind) ∧ w'.cell? ⟨lb, lo + d * 3 + 1, none⟩ = some (.int .i64 l.rc) ∧ w'.cell? ⟨lb, lo + d * 3 + 2, none⟩ = some (.bool l.once)) (by kernel_rfl) (⟨d2, e1, t0, l0, l1, l2⟩) (fun hHeld => ?_)
      refine wpAnyH_take (i := 0) (oi := { dst := some 15, op := Go.Op.fieldAddr 28 (Go.Operand.tmp 3) 2, type := 0, pos := "ref.go:66", after := #[], guard := none }) (v := ?_) rfl (by kernel_rfl) (by kernel_rfl) (by kernel_rfl) (fun _ _ _ h => h) (Or.inl ⟨by rfl, ?_⟩) hHeld ?_
      rotate_left
      · intro w0 hSw; (try dsimp only at hSw); go_simp; (try with_reducible rfl)
      try simp only [Act.put, List.setIfInBounds_toArray, List.set_cons_zero, List.set_cons_succ]
      refine wpAnyH_take (i := 1) (oi := { dst := some 16, op := Go.Op.load 24 (Go.Operand.tmp 15), type := 24, pos := "ref.go:66", after := #[{ on := 0, ground := Go.Ground.data }], guard := none }) (v := ?_) rfl (by kernel_rfl) (by kernel_rfl) (by kernel_rfl) (fun _ _ _ h => h) (Or.inl ⟨by rfl, ?_⟩) hHeld ?_
      rotate_left
      · intro w0 hSw; (try dsimp only at hSw); go_simp; (try with_reducible rfl)
      try simp only [Act.put, List.setIfInBounds_toArray, List.set_cons_zero, List.set_cons_succ]
      refine wpAnyH_take (i := 2) (oi := { dst := some 17, op := Go.Op.move (Go.Operand.tmp 1), type := 3, pos := "ref.go:66", after := #[], guard := none }) (v := ?_) rfl (by kernel_rfl) (by kernel_rfl) (by kernel_rfl) (fun _ _ _ h => h) (Or.inl ⟨by rfl, ?_⟩) hHeld ?_
      rotate_left
      · intro w0 hSw; (try dsimp only at hSw); go_simp; (try with_reducible rfl)
      try simp only [Act.put, List.setIfInBounds_toArray, List.set_cons_zero, List.set_cons_succ]
      refine wpAnyH_take (i := 3) (oi := { dst := some 18, op := Go.Op.indexAddr 24 (Go.Operand.tmp 16) (Go.Operand.tmp 17), type := 0, pos := "ref.go:66", after := #[{ on := 1, ground := Go.Ground.data }, { on := 2, ground := Go.Ground.data }], guard := none }) (v := ?_) rfl (by kernel_rfl) (by kernel_rfl) (by kernel_rfl) (fun _ _ _ h => h) (Or.inl ⟨by rfl, ?_⟩) hHeld ?_
      rotate_left
      · intro w0 hSw; (try dsimp only at hSw); go_simp; (try with_reducible rfl)
      try simp only [Act.put, List.setIfInBounds_toArray, List.set_cons_zero, List.set_cons_succ]
      refine wpAnyH_take (i := 4) (oi := { dst := some 19, op := Go.Op.fieldAddr 40 (Go.Operand.tmp 18) 0, type := 0, pos := "ref.go:66", after := #[{ on := 3, ground := Go.Ground.data }], guard := none }) (v := ?_) rfl (by kernel_rfl) (by kernel_rfl) (by kernel_rfl) (fun _ _ _ h => h) (Or.inl ⟨by rfl, ?_⟩) hHeld ?_
      rotate_left
      · intro w0 hSw; (try dsimp only at hSw); go_simp; (try with_reducible rfl)
      try simp only [Act.put, List.setIfInBounds_toArray, List.set_cons_zero, List.set_cons_succ]
      refine wpAnyH_take (i := 5) (oi := { dst := some 20, op := Go.Op.load 23 (Go.Operand.tmp 19), type := 23, pos := "ref.go:66", after := #[{ on := 4, ground := Go.Ground.data }], guard := none }) (v := ?_) rfl (by kernel_rfl) (by kernel_rfl) (by kernel_rfl) (fun _ _ _ h => h) (Or.inl ⟨by rfl, ?_⟩) hHeld ?_
      rotate_left
      · intro w0 hSw; (try dsimp only at hSw); go_simp; (try with_reducible rfl)
      try simp only [Act.put, List.setIfInBounds_toArray, List.set_cons_zero, List.set_cons_succ]
      refine wpAnyH_take (i := 6) (oi := { dst := some 21, op := Go.Op.fieldAddr 50 (Go.Operand.tmp 5) 1, type := 0, pos := "ref.go:66", after := #[], guard := none }) (v := ?_) rfl (by kernel_rfl) (by kernel_rfl) (by kernel_rfl) (fun _ _ _ h => h) (Or.inl ⟨by rfl, ?_⟩) hHeld ?_
      rotate_left
      · intro w0 hSw; (try dsimp only at hSw); go_simp; (try with_reducible rfl)
      try simp only [Act.put, List.setIfInBounds_toArray, List.set_cons_zero, List.set_cons_succ]
      refine wpAnyH_take (i := 7) (oi := { dst := some 22, op := Go.Op.load 3 (Go.Operand.tmp 21), type := 3, pos := "ref.go:66", after := #[{ on := 6, ground := Go.Ground.data }], guard := none }) (v := ?_) rfl (by kernel_rfl) (by kernel_rfl) (by kernel_rfl) (fun _ _ _ h => h) (Or.inl ⟨by rfl, ?_⟩) hHeld ?_
      rotate_left
      · intro w0 hSw; (try dsimp only at hSw); go_simp; (try with_reducible rfl)
      try simp only [Act.put, List.setIfInBounds_toArray, List.set_cons_zero, List.set_cons_succ]
      refine wpAnyH_take (i := 8) (oi := { dst := some 23, op := Go.Op.indexAddr 23 (Go.Operand.tmp 20) (Go.Operand.tmp 22), type := 0, pos := "ref.go:66", after := #[{ on := 5, ground := Go.Ground.data }, { on := 7, ground := Go.Ground.data }], guard := none }) (v := ?_) rfl (by kernel_rfl) (by kernel_rfl) (by kernel_rfl) (fun _ _ _ h => h) (Or.inl ⟨by rfl, ?_⟩) hHeld ?_
      rotate_left
      · intro w0 hSw; (try dsimp only at hSw); go_simp; (try with_reducible rfl)
      try simp only [Act.put, List.setIfInBounds_toArray, List.set_cons_zero, List.set_cons_succ]
      refine wpAnyH_take (i := 9) (oi := { dst := some 24, op := Go.Op.load 56 (Go.Operand.tmp 23), type := 56, pos := "ref.go:66", after := #[{ on := 8, ground := Go.Ground.data }], guard := none }) (v := ?_) rfl (by kernel_rfl) (by kernel_rfl) (by kernel_rfl) (fun _ _ _ h => h) (Or.inl ⟨by rfl, ?_⟩) hHeld ?_
      rotate_left
      · intro w0 hSw; (try dsimp only at hSw); go_simp; (try with_reducible rfl)
      try simp only [Act.put, List.setIfInBounds_toArray, List.set_cons_zero, List.set_cons_succ]
      refine wpAnyH_ready (rs := [10]) (by kernel_rfl) (by simp) ?_
      refine AllReadyH.cons (o := { dst := some 25, op := Go.Op.call { callee := Go.Callee.value (Go.Operand.func 30), args := #[Go.Operand.tmp 24], argTypes := #[56] }, type := 4, pos := "ref.go:66", after := #[{ on := 9, ground := Go.Ground.data }], guard := none }) rfl (fun K' hK' => ?_) AllReadyH.nil
      go_simp
      go_at_call 30
      refine Calls.mono (means_any l _) ?_
      rintro _ W1 ⟨rfl, hk⟩
      have hz := hid (show W1.cell? ⟨w.heap.size, 2, none⟩ = some (.slice (some ⟨tb, tf, none⟩) c.threads.length p2) ∧ W1.cell? ⟨w.heap.size + 1, 1, none⟩ = some (.int .i64 (d : Int)) ∧ W1.cell? ⟨tb, tf + i * 3, none⟩ = some (.slice (some ⟨lb, lo, none⟩) b.slots.length ps) ∧ W1.cell? ⟨lb, lo + d * 3, none⟩ = some (.int .i64 l.kind) ∧ W1.cell? ⟨lb, lo + d * 3 + 1, none⟩ = some (.int .i64 l.rc) ∧ W1.cell? ⟨lb, lo + d * 3 + 2, none⟩ = some (.bool l.once) from ⟨(hk.cell (q2)).trans d2, (hk.cell (q3)).trans e1, (hk.cell (q4)).trans t0, (hk.cell (q5)).trans l0, (hk.cell (q5)).trans l1, (hk.cell (q5)).trans l2⟩)
      replace BX := hid (BX.out.trans (hk.mono BX.out.size))
      clear hk
      refine hK'.out _ _ hz.out (fun hHeld => ?_)
      clear hK' K'
      try simp only [Act.put, List.setIfInBounds_toArray, List.set_cons_zero, List.set_cons_succ]
      refine wpAnyH_take (i := 11) (oi := { dst := some 6, op := Go.Op.assign (Go.Operand.tmp 25), type := 4, pos := "ref.go:66", after := #[{ on := 10, ground := Go.Ground.data }, { on := 10, ground := Go.Ground.chain }, { on := 0, ground := Go.Ground.phase }, { on := 1, ground := Go.Ground.phase }, { on := 2, ground := Go.Ground.phase }, { on := 3, ground := Go.Ground.phase }, { on := 4, ground := Go.Ground.phase }, { on := 5, ground := Go.Ground.phase }, { on := 6, ground := Go.Ground.phase }, { on := 7, ground := Go.Ground.phase }, { on := 8, ground := Go.Ground.phase }, { on := 9, ground := Go.Ground.phase }, { on := 10, ground := Go.Ground.phase }], guard := none }) (v := ?_) rfl (by kernel_rfl) (by kernel_rfl) (by kernel_rfl) (fun _ _ _ h => h) (Or.inl ⟨by rfl, ?_⟩) hHeld ?_
      rotate_left
      · intro w0 hSw; (try dsimp only at hSw); go_simp; (try with_reducible rfl)
      try simp only [Act.put, List.setIfInBounds_toArray, List.set_cons_zero, List.set_cons_succ]
      refine wpAnyH_done (by kernel_rfl) ?_ _
      clear hHeld
      go_wp2
      go_ret
      exact ⟨rfl, BX.out⟩
end Go.Proofs.YtkdpcaoocmbbhaaDoor
