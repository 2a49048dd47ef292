/- Contract of instrAt. -/
import Derived.Test.YtdpbapoahfggeaaDoorFits
namespace Go.Proofs.YtdpbapoahfggeaaDoor
open Go.ChangeShapes Go.WideShapes Go.ChangeAt Go.RowKit
set_option linter.unusedVariables false
set_option linter.unusedSimpArgs false

def Ins.val (x : Ins) : Value := .agg #[.int .i64 x.op, .int .i64 x.dst, .int .i64 x.src, .int .i64 x.rc, .int .i64 x.n, .int .i64 x.to, x.iv, x.xv]

theorem insAt_no1 (c : Cd) (th pl : Int) (h : isIn th c.threads.length = false) : insAt c th pl = Ins.z := by unfold insAt; rw [h]; rfl
theorem insAt_no2 (c : Cd) (th pl : Int) (t : Bd) (ht : c.threads[th.toNat]? = some t) (h : isIn pl t.code.length = false) : insAt c th pl = Ins.z := by
  unfold insAt
  rw [show c.threads.getD th.toNat Bd.z = t by simp [List.getD, ht], h, Bool.and_false]; rfl
theorem insAt_yes (c : Cd) (th pl : Int) (t : Bd) (x : Ins) (h0 : 0 ≤ th) (h1 : 0 ≤ pl) (ht : c.threads[th.toNat]? = some t) (hx : t.code[pl.toNat]? = some x) : insAt c th pl = x := by
  unfold insAt
  have e1 : isIn th c.threads.length = true := by have := (List.getElem?_eq_some_iff.1 ht).1; simp [isIn]; omega
  have e2 : isIn pl t.code.length = true := by have := (List.getElem?_eq_some_iff.1 hx).1; simp [isIn]; omega
  rw [show c.threads.getD th.toNat Bd.z = t by simp [List.getD, ht], e1, e2]
  simp [List.getD, hx]

theorem isIn_nat {n : Int} {m : Nat} (h : isIn n m = true) : ∃ k : Nat, n = k ∧ k < m := by
  obtain ⟨h0, h1⟩ := isIn_iff.1 h
  obtain ⟨k, rfl⟩ := Int.eq_ofNat_of_zero_le h0
  exact ⟨k, rfl, by omega⟩

theorem bd_cells {w : World} {v : Value} {l : List Bd} (h : Bds w v l) : ∃ a cap, v = .slice a l.length cap ∧ ∀ j, j < l.length → ∃ x b off a1 p1 a2 p2, l[j]? = some x ∧ a = some ⟨b, off, none⟩ ∧ b < w.heap.size ∧ x.sv = .slice a1 x.slots.length p1 ∧ x.cv = .slice a2 x.code.length p2 ∧
    w.cell? ⟨b, off + j * 3, none⟩ = some (.slice a1 x.slots.length p1) ∧ w.cell? ⟨b, off + j * 3 + 1, none⟩ = some (.slice a2 x.code.length p2) ∧ w.cell? ⟨b, off + j * 3 + 2, none⟩ = some (.int .i64 x.most) ∧ x.okW w := by
  obtain ⟨a, cap, e, hr⟩ := h.at
  refine ⟨a, cap, e, fun j hj => ?_⟩
  obtain ⟨x, b, off, hx, ha, hb, hc, ok⟩ := hr j hj
  obtain ⟨a1, p1, e1⟩ := ok.2.1.form
  obtain ⟨a2, p2, e2⟩ := ok.2.2.form
  exact ⟨x, b, off, a1, p1, a2, p2, hx, ha, hb, e1, e2, by have := hc 0 _ rfl; rwa [e1] at this, by have := hc 1 _ rfl; rwa [e2] at this, hc 2 _ rfl, ok⟩

theorem ins_cells {w : World} {v : Value} {l : List Ins} (h : Inss w v l) : ∃ a cap, v = .slice a l.length cap ∧ ∀ j, j < l.length → ∃ x b off a1 p1 a2 p2, l[j]? = some x ∧ a = some ⟨b, off, none⟩ ∧ b < w.heap.size ∧ x.iv = .slice a1 x.items.length p1 ∧ x.xv = .slice a2 x.index.length p2 ∧
    (w.cell? ⟨b, off + j * 8, none⟩ = some (.int .i64 x.op) ∧ w.cell? ⟨b, off + j * 8 + 1, none⟩ = some (.int .i64 x.dst) ∧ w.cell? ⟨b, off + j * 8 + 2, none⟩ = some (.int .i64 x.src) ∧ w.cell? ⟨b, off + j * 8 + 3, none⟩ = some (.int .i64 x.rc) ∧
     w.cell? ⟨b, off + j * 8 + 4, none⟩ = some (.int .i64 x.n) ∧ w.cell? ⟨b, off + j * 8 + 5, none⟩ = some (.int .i64 x.to) ∧ w.cell? ⟨b, off + j * 8 + 6, none⟩ = some (.slice a1 x.items.length p1) ∧ w.cell? ⟨b, off + j * 8 + 7, none⟩ = some (.slice a2 x.index.length p2)) ∧ x.okW w := by
  obtain ⟨a, cap, e, hr⟩ := h.at
  refine ⟨a, cap, e, fun j hj => ?_⟩
  obtain ⟨x, b, off, hx, ha, hb, hc, ok⟩ := hr j hj
  obtain ⟨a1, p1, e1⟩ := ok.2.1.form
  obtain ⟨a2, p2, e2⟩ := ok.2.2.form
  exact ⟨x, b, off, a1, p1, a2, p2, hx, ha, hb, e1, e2, ⟨hc 0 _ rfl, hc 1 _ rfl, hc 2 _ rfl, hc 3 _ rfl, hc 4 _ rfl, hc 5 _ rfl, by have := hc 6 _ rfl; rwa [e1] at this, by have := hc 7 _ rfl; rwa [e2] at this⟩, ok⟩

theorem alloc_new2 (w : World) (o1 o2 : Obj) : ((w.alloc o1).alloc o2).heap[w.heap.size + 1]? = some o2 := by
  have := heap_alloc_new (w.alloc o1) o2
  simpa only [World.size_alloc] using this

set_option maxRecDepth 100000 in
set_option maxHeartbeats 1000000 in
theorem instrAt_any (c : Cd) (th pl : Int) (w : World) (hc : c.okW w) (hs : SmallP c) :
    Calls Tryd.prog 54 #[.agg #[c.rv, c.gv, c.tv, c.ev, c.cv], .int .i64 th, .int .i64 pl] w fun e w' => e = .returned (insAt c th pl).val ∧ Below w.heap.size w w' := by
  obtain ⟨a0, p0, a1, p1, a2, p2, a3, p3, a4, p4, e0, e1, e2, e3, e4⟩ := cd_open hc
  obtain ⟨a2', p2', e2', hr⟩ := bd_cells hc.2.2.1
  rw [e2] at e2'
  cases e2'
  have C := hid (fun W => place47_any th a2 c.threads.length p2 W)
  rw [e0, e1, e2, e3, e4]
  clear e0 e1 e2 e3 e4
  cases h1 : isIn th c.threads.length
  · have F := hid (insAt_no1 c th pl h1)
    rw [h1] at C
    clear h1 hc hs hr
    go_enter Tryd.func54, Tryd.ntmps54
    go_wp2_with (go_at_call 64; refine Calls.mono (C.out _) ?_; rintro e w' ⟨rfl, rfl⟩)
    refine bodyPost_ret (results_cell_row rfl _ _ (w.heap.size + 1) _ _ _ _ rfl (alloc_new2 _ _ _) Tryd.underlying58 rfl (by kernel_rfl)) rfl ?_
    exact ⟨by rw [F.out]; rfl, below2 _ _ _⟩
  · rw [h1] at C
    obtain ⟨t, rfl, ht⟩ := isIn_nat h1
    obtain ⟨x, b, off, q1, r1, q2, r2, hx, rfl, hb, es, ec, g0, g1, g2, ok⟩ := hr t ht
    obtain ⟨a5, p5, e5, hr5⟩ := ins_cells ok.2.2
    rw [ec] at e5
    cases e5
    have C2 := hid (fun W => place48_any pl q2 x.code.length r2 W)
    have ht' : (t : Int) < (c.threads.length : Int) := by omega
    have hl3 := hs.l3
    have hl4 := hs.code t x hx
    cases h2 : isIn pl x.code.length
    · have F := hid (insAt_no2 c t pl x (by simpa using hx) h2)
      rw [h2] at C2
      clear h1 h2 hc hs hr hx es ec ok hr5
      go_enter Tryd.func54, Tryd.ntmps54
      go_wp2_with (first | (go_at_call 64; refine Calls.mono (C.out _) ?_; rintro e w' ⟨rfl, rfl⟩) | (go_at_call 65; refine Calls.mono (C2.out _) ?_; rintro e w' ⟨rfl, rfl⟩))
      refine bodyPost_ret (results_cell_row rfl _ _ (w.heap.size + 1) _ _ _ _ rfl (alloc_new2 _ _ _) Tryd.underlying58 rfl (by kernel_rfl)) rfl ?_
      exact ⟨by rw [F.out]; rfl, below2 _ _ _⟩
    · rw [h2] at C2
      obtain ⟨k, rfl, hk⟩ := isIn_nat h2
      obtain ⟨y, b', off', s1, u1, s2, u2, hy, rfl, hb', ei, ex, ⟨d0, d1, d2, d3, d4, d5, d6, d7⟩, ok'⟩ := hr5 k hk
      have F := hid (insAt_yes c t k x y (by omega) (by omega) (by simpa using hx) (by simpa using hy))
      have V : Hid (y.val = .agg #[.int .i64 y.op, .int .i64 y.dst, .int .i64 y.src, .int .i64 y.rc, .int .i64 y.n, .int .i64 y.to, .slice s1 y.items.length u1, .slice s2 y.index.length u2]) := hid (by unfold Ins.val; rw [ei, ex])
      have hk' : (k : Int) < (x.code.length : Int) := by omega
      clear h1 h2 hc hs hr hx es ec ok hr5 hy ei ex ok'
      go_enter Tryd.func54, Tryd.ntmps54
      go_wp2_with (first | (go_at_call 64; refine Calls.mono (C.out _) ?_; rintro e w' ⟨rfl, rfl⟩) | (go_at_call 65; refine Calls.mono (C2.out _) ?_; rintro e w' ⟨rfl, rfl⟩))
      refine bodyPost_ret (results_cell_row rfl _ _ (w.heap.size + 1) _ _ _ _ rfl (alloc_new2 _ _ _) Tryd.underlying58 rfl (by kernel_rfl)) rfl ?_
      exact ⟨by rw [F.out, V.out], below2 _ _ _⟩
end Go.Proofs.YtdpbapoahfggeaaDoor
