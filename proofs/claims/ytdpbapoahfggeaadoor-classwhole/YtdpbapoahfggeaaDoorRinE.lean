/- Contract of the document's instr: kinds 10, 11, 12, 17. -/
import Derived.Test.YtdpbapoahfggeaaDoorM12
import Derived.Test.YtdpbapoahfggeaaDoorM03
import Derived.Test.YtdpbapoahfggeaaDoorM02
namespace Go.Proofs.YtdpbapoahfggeaaDoor
open Go.ChangeShapes Go.WideShapes Go.ChangeAt Go.RowKit
set_option linter.unusedVariables false
set_option linter.unusedSimpArgs false

set_option maxRecDepth 100000 in
set_option maxHeartbeats 4000000 in
theorem rin10 (c : Cd) (i k : Nat) (b : Bd) (dst src rc n tt : Int) (items index : List Itm) (iv xv : Value) (w : World) (hc : c.okW w) (hs : SmallP c) (ht : c.threads[i]? = some b) (hx : b.code[k]? = some ⟨10, dst, src, rc, n, tt, items, iv, index, xv⟩)
    (hl : ∀ (j : Nat) (l : Loc), b.slots[j]? = some l → locOk c.recs.length l = true) :
    Calls Tryd.prog 21 #[.agg #[c.rv, c.gv, c.tv, c.ev, c.cv], .int .i64 i, .int .i64 k] w fun e w' => e = .returned (.bool (insOk c i b k ⟨10, dst, src, rc, n, tt, items, iv, index, xv⟩)) ∧ Below w.heap.size w w' := by
  obtain ⟨a0, p0, a1, p1, bt, ot, p2, a3, p3, a4, p4, a5, p5, bi, oi, p6, a7, p7, a8, p8, e0, e1, e2, e3, e4, rfl, rfl, P⟩ := pre_any hc hs ht hx ⟨#[100, 115]⟩ true true false false false false false (by decide) (by decide) (by decide) (by decide) (by decide) (by decide) (by decide) (by decide) (by first | kernel_rfl | rfl | (simp [ByteArray.toList, ByteArray.toList.loop]; done))
  rw [e0, e1, e2, e3, e4]
  obtain ⟨C100, C115, C114, C110, C116, C105, C120, D100, D115, D114, D105, D120, hq, DI, BB, KC0, KB0, KX0, hsec, hsl, hgl, hre, hst, F, t0, t1, t2, d0, d1, d2, d3, d4, d5, d6, d7, ii, kk, hbt, hbi, q1, q3, q5, qs, qc⟩ := P
  generalize insOk c i b k ⟨10, dst, src, rc, n, tt, items, .slice a7 items.length p7, index, .slice a8 index.length p8⟩ = rr at *
  have HH := hid (fun W => Has10 W)
  clear e0 e1 e2 e3 e4
  replace hl := hid hl
  replace hc := hid hc
  replace hs := hid hs
  replace ht := hid ht
  replace hx := hid hx
  go_enter Tryd.func21, Tryd.ntmps21
  go_upto_region 4 with (go_at_call 29; refine Calls.mono (HH.out _) ?_; rintro e w1 ⟨rfl, hb⟩; have B1 := hid (bover BB.out hb); have KC := hid (KC0.out.kept hb); have KB := hid (KB0.out.kept hb); have KX := hid (KX0.out.kept hb); clear KC0 KB0 KX0 BB hb)
  obtain ⟨cA, hA⟩ : ∃ q, tA ⟨10, dst, src, rc, n, tt, items, .slice a7 items.length p7, index, .slice a8 index.length p8⟩ = q := ⟨_, rfl⟩
  replace hA := hid hA
  refine region4_any hq.out C100.out C115.out C114.out C110.out C116.out C105.out C120.out KX.out hA.out ?_
  intro g
  clear t0 t1 t2 d0 d1 d2 d3 d4 d5 d6 d7 HH hq ii q1 q3 q5 qs
  have h1000 : (b.code.length : Int) ≤ 1000 := by omega
  cases cA
  rotate_left
  · have G : Hid (rr = false) := hid (by rw [F.out]; simp [insF, hA.out])
    clear F DI KC KB KX hA hgl hre hst hl hsl hc hs ht hx hsec C100 C115 C114 C110 C116 C105 C120 D100 D115 D114 D105 D120
    go_wp2_with fail
    go_ret
    exact ⟨retB G.out.symm, B1.out⟩
  obtain ⟨b0, b1, b2⟩ := three0 KB.out
  go_upto_region 7 with fail
  clear b0 b1 b2
  obtain ⟨cB, hB⟩ : ∃ q, tB c b ⟨10, dst, src, rc, n, tt, items, .slice a7 items.length p7, index, .slice a8 index.length p8⟩ = q := ⟨_, rfl⟩
  replace hB := hid hB
  refine region7_any C100.out C115.out C105.out C120.out C114.out D100.out D115.out D114.out (D105.out.mono B1.out) (D120.out.mono B1.out) KX.out KC.out hB.out ?_
  intro w2 hb g2
  replace B1 := hid (bover B1.out hb)
  replace KC := hid (KC.out.kept hb)
  replace KB := hid (KB.out.kept hb)
  replace KX := hid (KX.out.kept hb)
  replace C100 : Hid (∀ W, Calls Tryd.prog 30 #[.string ⟨#[100, 115]⟩, .int .u8 100] W fun e w' => e = .returned (.bool true) ∧ w' = W) := C100
  replace C115 : Hid (∀ W, Calls Tryd.prog 30 #[.string ⟨#[100, 115]⟩, .int .u8 115] W fun e w' => e = .returned (.bool true) ∧ w' = W) := C115
  clear hb C105 C120 C114 D100 D115 D114 D105 D120
  cases cB
  rotate_left
  · have G : Hid (rr = false) := hid (by rw [F.out]; simp [insF, hB.out])
    clear F DI KC KB KX hgl hre hst hA hB hl hsl hc hs ht hx hsec C110 C116 C100 C115
    go_wp2_with fail
    go_ret
    exact ⟨retB G.out.symm, B1.out⟩
  obtain ⟨kd, ekd, hkd⟩ := isIn_nat (tB_d hB.out (by rfl))
  simp only at ekd
  subst ekd
  obtain ⟨sd, hsd⟩ : ∃ sd, b.slots[kd]? = some sd := ⟨b.slots[kd], by simp [hkd]⟩
  obtain ⟨ks, eks, hks⟩ := isIn_nat (tB_s hB.out (by rfl))
  simp only at eks
  subst eks
  obtain ⟨ss, hss⟩ : ∃ ss, b.slots[ks]? = some ss := ⟨b.slots[ks], by simp [hks]⟩
  obtain ⟨bs, os, cs, es, hbs, u0, u1, u2⟩ := loc_cells hsl.out hsd
  cases es
  obtain ⟨bs', os', cs', es, hbs', v0, v1, v2⟩ := loc_cells hsl.out hss
  cases es
  have kd2 : (kd : Int) < (b.slots.length : Int) := by omega
  replace hsd := hid hsd
  have ks2 : (ks : Int) < (b.slots.length : Int) := by omega
  replace hss := hid hss
  have hC3 : Hid (tC c i b k ⟨10, (kd : Int), (ks : Int), rc, n, tt, items, .slice a7 items.length p7, index, .slice a8 index.length p8⟩ = false) := hid rfl
  go_wp2_with fail
  go_quiet ((first | (go_at_call 30; exact Calls.quiet_of_same (C116.out _))))
  replace KC := hid (KC.out.kept (quietB (Below.refl _ _) nq))
  replace KB := hid (KB.out.kept (quietB (Below.refl _ _) nq))
  replace KX := hid (KX.out.kept (quietB (Below.refl _ _) nq))
  replace B1 := hid (quietB B1.out nq)
  generalize w2.drewN nq = w3 at *
  clear C116
  have hD3 : Hid (tD c i k ⟨10, (kd : Int), (ks : Int), rc, n, tt, items, .slice a7 items.length p7, index, .slice a8 index.length p8⟩ = false) := hid rfl
  obtain ⟨b0, b1, b2⟩ := three0 KB.out
  obtain ⟨f0, f1, f2, f3, f4, f5, f6, f7⟩ := eight KX.out
  obtain ⟨c0, c1, c2, c3, c4⟩ := five0 KC.out
  have lb : _ < w3.heap.size := KB.out.1
  have lx : _ < w3.heap.size := KX.out.1
  have lc : _ < w3.heap.size := KC.out.1
  go_upto_region 13 with fail
  clear lb lx lc b0 b1 b2 f0 f1 f2 f3 f4 f5 f6 f7 c0 c1 c2 c3 c4
  cases z6 : ((k : Int) == (b.code.length : Int) - 1)
  rotate_left
  · have G : Hid (rr = false) := hid (by rw [F.out]; simp [insF, tE, z6])
    clear F hA hB hC3 hD3 hgl hre hst hl hsl hc hs ht hx hsec C100 C115 C110
    obtain ⟨b0, b1, b2⟩ := three0 KB.out
    obtain ⟨f0, f1, f2, f3, f4, f5, f6, f7⟩ := eight KX.out
    obtain ⟨c0, c1, c2, c3, c4⟩ := five0 KC.out
    have lb : _ < w3.heap.size := KB.out.1
    have lx : _ < w3.heap.size := KX.out.1
    have lc : _ < w3.heap.size := KC.out.1
    go_wp2_with fail
    go_ret
    exact ⟨retB G.out.symm, B1.out⟩
  have hE3 : Hid (tE b k ⟨10, (kd : Int), (ks : Int), rc, n, tt, items, .slice a7 items.length p7, index, .slice a8 index.length p8⟩ = false) := hid (by simp [tE, z6])
  have F2 : Hid (rr = agreesB c i b k ⟨10, (kd : Int), (ks : Int), rc, n, tt, items, .slice a7 items.length p7, index, .slice a8 index.length p8⟩) := hid (by rw [F.out]; simp [insF, hA.out, hB.out, hC3.out, hD3.out, hE3.out, isOp])
  clear F hA hB hC3 hD3 hE3
  have E1 := hid (holds_plain (q := 1) (hl.out _ _ hsd.out) hsd.out (Or.inl rfl))
  have E3 := hid (holds_plain (q := 3) (hl.out _ _ hss.out) hss.out (Or.inr rfl))
  obtain ⟨b0, b1, b2⟩ := three0 KB.out
  obtain ⟨f0, f1, f2, f3, f4, f5, f6, f7⟩ := eight KX.out
  obtain ⟨c0, c1, c2, c3, c4⟩ := five0 KC.out
  have lb : _ < w3.heap.size := KB.out.1
  have lx : _ < w3.heap.size := KX.out.1
  have lc : _ < w3.heap.size := KC.out.1
  have lbs : _ < w3.heap.size := Nat.lt_of_lt_of_le hbs B1.out.size
  rw [← B1.out.cell hbs] at u0 u1 u2
  rw [← B1.out.cell hbs] at v0 v1 v2
  clear hgl hre hst hl hsl hc hs ht hx hsec KC KB KX
  have F3 : Hid (rr = ((sd.kind == 1) && (ss.kind == 3))) := hid (F2.out.trans (show (holdsB b _ 1 0 && holdsB b _ 3 0) = _ by rw [E1.out, E3.out]))
  clear F2 E1 E3 hsd hss
  cases q1 : (sd.kind == 1)
  · go_wp2_with (first | (go_at_call 30; with_reducible refine Calls.mono (C100.out _) ?_; rintro e w9 ⟨rfl, rfl⟩) | (go_at_call 30; with_reducible refine Calls.mono (C115.out _) ?_; rintro e w9 ⟨rfl, rfl⟩))
    go_ret
    exact ⟨retB (F3.out.trans (by simp [*])).symm, bel2 B1.out _ _⟩
  · cases q2 : (ss.kind == 3)
    · go_wp2_with (first | (go_at_call 30; with_reducible refine Calls.mono (C100.out _) ?_; rintro e w9 ⟨rfl, rfl⟩) | (go_at_call 30; with_reducible refine Calls.mono (C115.out _) ?_; rintro e w9 ⟨rfl, rfl⟩))
      go_ret
      exact ⟨retB (F3.out.trans (by simp [*])).symm, bel2 B1.out _ _⟩
    · go_wp2_with (first | (go_at_call 30; with_reducible refine Calls.mono (C100.out _) ?_; rintro e w9 ⟨rfl, rfl⟩) | (go_at_call 30; with_reducible refine Calls.mono (C115.out _) ?_; rintro e w9 ⟨rfl, rfl⟩))
      go_ret
      exact ⟨retB (F3.out.trans (by simp [*])).symm, bel2 B1.out _ _⟩

set_option maxRecDepth 100000 in
set_option maxHeartbeats 4000000 in
theorem rin11 (c : Cd) (i k : Nat) (b : Bd) (dst src rc n tt : Int) (items index : List Itm) (iv xv : Value) (w : World) (hc : c.okW w) (hs : SmallP c) (ht : c.threads[i]? = some b) (hx : b.code[k]? = some ⟨11, dst, src, rc, n, tt, items, iv, index, xv⟩)
    (hl : ∀ (j : Nat) (l : Loc), b.slots[j]? = some l → locOk c.recs.length l = true) :
    Calls Tryd.prog 21 #[.agg #[c.rv, c.gv, c.tv, c.ev, c.cv], .int .i64 i, .int .i64 k] w fun e w' => e = .returned (.bool (insOk c i b k ⟨11, dst, src, rc, n, tt, items, iv, index, xv⟩)) ∧ Below w.heap.size w w' := by
  obtain ⟨a0, p0, a1, p1, bt, ot, p2, a3, p3, a4, p4, a5, p5, bi, oi, p6, a7, p7, a8, p8, e0, e1, e2, e3, e4, rfl, rfl, P⟩ := pre_any hc hs ht hx ⟨#[105]⟩ false false false false false true false (by decide) (by decide) (by decide) (by decide) (by decide) (by decide) (by decide) (by decide) (by first | kernel_rfl | rfl | (simp [ByteArray.toList, ByteArray.toList.loop]; done))
  rw [e0, e1, e2, e3, e4]
  obtain ⟨C100, C115, C114, C110, C116, C105, C120, D100, D115, D114, D105, D120, hq, DI, BB, KC0, KB0, KX0, hsec, hsl, hgl, hre, hst, F, t0, t1, t2, d0, d1, d2, d3, d4, d5, d6, d7, ii, kk, hbt, hbi, q1, q3, q5, qs, qc⟩ := P
  generalize insOk c i b k ⟨11, dst, src, rc, n, tt, items, .slice a7 items.length p7, index, .slice a8 index.length p8⟩ = rr at *
  have HH := hid (fun W => Has11 W)
  clear e0 e1 e2 e3 e4
  replace hl := hid hl
  replace hc := hid hc
  replace hs := hid hs
  replace ht := hid ht
  replace hx := hid hx
  go_enter Tryd.func21, Tryd.ntmps21
  go_upto_region 4 with (go_at_call 29; refine Calls.mono (HH.out _) ?_; rintro e w1 ⟨rfl, hb⟩; have B1 := hid (bover BB.out hb); have KC := hid (KC0.out.kept hb); have KB := hid (KB0.out.kept hb); have KX := hid (KX0.out.kept hb); clear KC0 KB0 KX0 BB hb)
  obtain ⟨cA, hA⟩ : ∃ q, tA ⟨11, dst, src, rc, n, tt, items, .slice a7 items.length p7, index, .slice a8 index.length p8⟩ = q := ⟨_, rfl⟩
  replace hA := hid hA
  refine region4_any hq.out C100.out C115.out C114.out C110.out C116.out C105.out C120.out KX.out hA.out ?_
  intro g
  clear t0 t1 t2 d0 d1 d2 d3 d4 d5 d6 d7 HH hq ii q1 q3 q5 qs
  have h1000 : (b.code.length : Int) ≤ 1000 := by omega
  cases cA
  rotate_left
  · have G : Hid (rr = false) := hid (by rw [F.out]; simp [insF, hA.out])
    clear F DI KC KB KX hA hgl hre hst hl hsl hc hs ht hx hsec C100 C115 C114 C110 C116 C105 C120 D100 D115 D114 D105 D120
    go_wp2_with fail
    go_ret
    exact ⟨retB G.out.symm, B1.out⟩
  obtain ⟨b0, b1, b2⟩ := three0 KB.out
  go_upto_region 7 with fail
  clear b0 b1 b2
  obtain ⟨cB, hB⟩ : ∃ q, tB c b ⟨11, dst, src, rc, n, tt, items, .slice a7 items.length p7, index, .slice a8 index.length p8⟩ = q := ⟨_, rfl⟩
  replace hB := hid hB
  refine region7_any C100.out C115.out C105.out C120.out C114.out D100.out D115.out D114.out (D105.out.mono B1.out) (D120.out.mono B1.out) KX.out KC.out hB.out ?_
  intro w2 hb g2
  replace B1 := hid (bover B1.out hb)
  replace KC := hid (KC.out.kept hb)
  replace KB := hid (KB.out.kept hb)
  replace KX := hid (KX.out.kept hb)
  replace C100 : Hid (∀ W, Calls Tryd.prog 30 #[.string ⟨#[105]⟩, .int .u8 100] W fun e w' => e = .returned (.bool false) ∧ w' = W) := C100
  replace C115 : Hid (∀ W, Calls Tryd.prog 30 #[.string ⟨#[105]⟩, .int .u8 115] W fun e w' => e = .returned (.bool false) ∧ w' = W) := C115
  clear hb C105 C120 C114 D100 D115 D114 D105 D120
  cases cB
  rotate_left
  · have G : Hid (rr = false) := hid (by rw [F.out]; simp [insF, hB.out])
    clear F DI KC KB KX hgl hre hst hA hB hl hsl hc hs ht hx hsec C110 C116 C100 C115
    go_wp2_with fail
    go_ret
    exact ⟨retB G.out.symm, B1.out⟩
  have hC3 : Hid (tC c i b k ⟨11, dst, src, rc, n, tt, items, .slice a7 items.length p7, index, .slice a8 index.length p8⟩ = false) := hid rfl
  go_wp2_with fail
  go_quiet ((first | (go_at_call 30; exact Calls.quiet_of_same (C116.out _))))
  replace KC := hid (KC.out.kept (quietB (Below.refl _ _) nq))
  replace KB := hid (KB.out.kept (quietB (Below.refl _ _) nq))
  replace KX := hid (KX.out.kept (quietB (Below.refl _ _) nq))
  replace B1 := hid (quietB B1.out nq)
  generalize w2.drewN nq = w3 at *
  clear C116
  have hD3 : Hid (tD c i k ⟨11, dst, src, rc, n, tt, items, .slice a7 items.length p7, index, .slice a8 index.length p8⟩ = false) := hid rfl
  obtain ⟨b0, b1, b2⟩ := three0 KB.out
  obtain ⟨f0, f1, f2, f3, f4, f5, f6, f7⟩ := eight KX.out
  obtain ⟨c0, c1, c2, c3, c4⟩ := five0 KC.out
  have lb : _ < w3.heap.size := KB.out.1
  have lx : _ < w3.heap.size := KX.out.1
  have lc : _ < w3.heap.size := KC.out.1
  go_upto_region 13 with fail
  clear lb lx lc b0 b1 b2 f0 f1 f2 f3 f4 f5 f6 f7 c0 c1 c2 c3 c4
  cases z6 : ((k : Int) == (b.code.length : Int) - 1)
  rotate_left
  · have G : Hid (rr = false) := hid (by rw [F.out]; simp [insF, tE, z6])
    clear F hA hB hC3 hD3 hgl hre hst hl hsl hc hs ht hx hsec C100 C115 C110
    obtain ⟨b0, b1, b2⟩ := three0 KB.out
    obtain ⟨f0, f1, f2, f3, f4, f5, f6, f7⟩ := eight KX.out
    obtain ⟨c0, c1, c2, c3, c4⟩ := five0 KC.out
    have lb : _ < w3.heap.size := KB.out.1
    have lx : _ < w3.heap.size := KX.out.1
    have lc : _ < w3.heap.size := KC.out.1
    go_wp2_with fail
    go_ret
    exact ⟨retB G.out.symm, B1.out⟩
  have hE3 : Hid (tE b k ⟨11, dst, src, rc, n, tt, items, .slice a7 items.length p7, index, .slice a8 index.length p8⟩ = false) := hid (by simp [tE, z6])
  have F2 : Hid (rr = agreesB c i b k ⟨11, dst, src, rc, n, tt, items, .slice a7 items.length p7, index, .slice a8 index.length p8⟩) := hid (by rw [F.out]; simp [insF, hA.out, hB.out, hC3.out, hD3.out, hE3.out, isOp])
  clear F hA hB hC3 hD3 hE3
  obtain ⟨b0, b1, b2⟩ := three0 KB.out
  obtain ⟨f0, f1, f2, f3, f4, f5, f6, f7⟩ := eight KX.out
  obtain ⟨c0, c1, c2, c3, c4⟩ := five0 KC.out
  have lb : _ < w3.heap.size := KB.out.1
  have lx : _ < w3.heap.size := KX.out.1
  have lc : _ < w3.heap.size := KC.out.1
  clear hgl hre hst hl hsl hc hs ht hx hsec KC KB KX
  go_wp2_with (first | (go_at_call 30; with_reducible refine Calls.mono (C100.out _) ?_; rintro e w9 ⟨rfl, rfl⟩) | (go_at_call 30; with_reducible refine Calls.mono (C115.out _) ?_; rintro e w9 ⟨rfl, rfl⟩))
  go_ret
  exact ⟨retB (F2.out.trans (by rfl)).symm, bel2 B1.out _ _⟩

set_option maxRecDepth 100000 in
set_option maxHeartbeats 4000000 in
theorem rin12 (c : Cd) (i k : Nat) (b : Bd) (dst src rc n tt : Int) (items index : List Itm) (iv xv : Value) (w : World) (hc : c.okW w) (hs : SmallP c) (ht : c.threads[i]? = some b) (hx : b.code[k]? = some ⟨12, dst, src, rc, n, tt, items, iv, index, xv⟩)
    (hl : ∀ (j : Nat) (l : Loc), b.slots[j]? = some l → locOk c.recs.length l = true) :
    Calls Tryd.prog 21 #[.agg #[c.rv, c.gv, c.tv, c.ev, c.cv], .int .i64 i, .int .i64 k] w fun e w' => e = .returned (.bool (insOk c i b k ⟨12, dst, src, rc, n, tt, items, iv, index, xv⟩)) ∧ Below w.heap.size w w' := by
  obtain ⟨a0, p0, a1, p1, bt, ot, p2, a3, p3, a4, p4, a5, p5, bi, oi, p6, a7, p7, a8, p8, e0, e1, e2, e3, e4, rfl, rfl, P⟩ := pre_any hc hs ht hx ⟨#[105]⟩ false false false false false true false (by decide) (by decide) (by decide) (by decide) (by decide) (by decide) (by decide) (by decide) (by first | kernel_rfl | rfl | (simp [ByteArray.toList, ByteArray.toList.loop]; done))
  rw [e0, e1, e2, e3, e4]
  obtain ⟨C100, C115, C114, C110, C116, C105, C120, D100, D115, D114, D105, D120, hq, DI, BB, KC0, KB0, KX0, hsec, hsl, hgl, hre, hst, F, t0, t1, t2, d0, d1, d2, d3, d4, d5, d6, d7, ii, kk, hbt, hbi, q1, q3, q5, qs, qc⟩ := P
  generalize insOk c i b k ⟨12, dst, src, rc, n, tt, items, .slice a7 items.length p7, index, .slice a8 index.length p8⟩ = rr at *
  have HH := hid (fun W => Has12 W)
  clear e0 e1 e2 e3 e4
  replace hl := hid hl
  replace hc := hid hc
  replace hs := hid hs
  replace ht := hid ht
  replace hx := hid hx
  go_enter Tryd.func21, Tryd.ntmps21
  go_upto_region 4 with (go_at_call 29; refine Calls.mono (HH.out _) ?_; rintro e w1 ⟨rfl, hb⟩; have B1 := hid (bover BB.out hb); have KC := hid (KC0.out.kept hb); have KB := hid (KB0.out.kept hb); have KX := hid (KX0.out.kept hb); clear KC0 KB0 KX0 BB hb)
  obtain ⟨cA, hA⟩ : ∃ q, tA ⟨12, dst, src, rc, n, tt, items, .slice a7 items.length p7, index, .slice a8 index.length p8⟩ = q := ⟨_, rfl⟩
  replace hA := hid hA
  refine region4_any hq.out C100.out C115.out C114.out C110.out C116.out C105.out C120.out KX.out hA.out ?_
  intro g
  clear t0 t1 t2 d0 d1 d2 d3 d4 d5 d6 d7 HH hq ii q1 q3 q5 qs
  have h1000 : (b.code.length : Int) ≤ 1000 := by omega
  cases cA
  rotate_left
  · have G : Hid (rr = false) := hid (by rw [F.out]; simp [insF, hA.out])
    clear F DI KC KB KX hA hgl hre hst hl hsl hc hs ht hx hsec C100 C115 C114 C110 C116 C105 C120 D100 D115 D114 D105 D120
    go_wp2_with fail
    go_ret
    exact ⟨retB G.out.symm, B1.out⟩
  obtain ⟨b0, b1, b2⟩ := three0 KB.out
  go_upto_region 7 with fail
  clear b0 b1 b2
  obtain ⟨cB, hB⟩ : ∃ q, tB c b ⟨12, dst, src, rc, n, tt, items, .slice a7 items.length p7, index, .slice a8 index.length p8⟩ = q := ⟨_, rfl⟩
  replace hB := hid hB
  refine region7_any C100.out C115.out C105.out C120.out C114.out D100.out D115.out D114.out (D105.out.mono B1.out) (D120.out.mono B1.out) KX.out KC.out hB.out ?_
  intro w2 hb g2
  replace B1 := hid (bover B1.out hb)
  replace KC := hid (KC.out.kept hb)
  replace KB := hid (KB.out.kept hb)
  replace KX := hid (KX.out.kept hb)
  replace C100 : Hid (∀ W, Calls Tryd.prog 30 #[.string ⟨#[105]⟩, .int .u8 100] W fun e w' => e = .returned (.bool false) ∧ w' = W) := C100
  replace C115 : Hid (∀ W, Calls Tryd.prog 30 #[.string ⟨#[105]⟩, .int .u8 115] W fun e w' => e = .returned (.bool false) ∧ w' = W) := C115
  clear hb C105 C120 C114 D100 D115 D114 D105 D120
  cases cB
  rotate_left
  · have G : Hid (rr = false) := hid (by rw [F.out]; simp [insF, hB.out])
    clear F DI KC KB KX hgl hre hst hA hB hl hsl hc hs ht hx hsec C110 C116 C100 C115
    go_wp2_with fail
    go_ret
    exact ⟨retB G.out.symm, B1.out⟩
  have hC3 : Hid (tC c i b k ⟨12, dst, src, rc, n, tt, items, .slice a7 items.length p7, index, .slice a8 index.length p8⟩ = false) := hid rfl
  go_wp2_with fail
  go_quiet ((first | (go_at_call 30; exact Calls.quiet_of_same (C116.out _))))
  replace KC := hid (KC.out.kept (quietB (Below.refl _ _) nq))
  replace KB := hid (KB.out.kept (quietB (Below.refl _ _) nq))
  replace KX := hid (KX.out.kept (quietB (Below.refl _ _) nq))
  replace B1 := hid (quietB B1.out nq)
  generalize w2.drewN nq = w3 at *
  clear C116
  have hD3 : Hid (tD c i k ⟨12, dst, src, rc, n, tt, items, .slice a7 items.length p7, index, .slice a8 index.length p8⟩ = false) := hid rfl
  obtain ⟨b0, b1, b2⟩ := three0 KB.out
  obtain ⟨f0, f1, f2, f3, f4, f5, f6, f7⟩ := eight KX.out
  obtain ⟨c0, c1, c2, c3, c4⟩ := five0 KC.out
  have lb : _ < w3.heap.size := KB.out.1
  have lx : _ < w3.heap.size := KX.out.1
  have lc : _ < w3.heap.size := KC.out.1
  go_upto_region 13 with fail
  clear lb lx lc b0 b1 b2 f0 f1 f2 f3 f4 f5 f6 f7 c0 c1 c2 c3 c4
  cases z6 : ((k : Int) == (b.code.length : Int) - 1)
  rotate_left
  · have G : Hid (rr = false) := hid (by rw [F.out]; simp [insF, tE, z6])
    clear F hA hB hC3 hD3 hgl hre hst hl hsl hc hs ht hx hsec C100 C115 C110
    obtain ⟨b0, b1, b2⟩ := three0 KB.out
    obtain ⟨f0, f1, f2, f3, f4, f5, f6, f7⟩ := eight KX.out
    obtain ⟨c0, c1, c2, c3, c4⟩ := five0 KC.out
    have lb : _ < w3.heap.size := KB.out.1
    have lx : _ < w3.heap.size := KX.out.1
    have lc : _ < w3.heap.size := KC.out.1
    go_wp2_with fail
    go_ret
    exact ⟨retB G.out.symm, B1.out⟩
  have hE3 : Hid (tE b k ⟨12, dst, src, rc, n, tt, items, .slice a7 items.length p7, index, .slice a8 index.length p8⟩ = false) := hid (by simp [tE, z6])
  have F2 : Hid (rr = agreesB c i b k ⟨12, dst, src, rc, n, tt, items, .slice a7 items.length p7, index, .slice a8 index.length p8⟩) := hid (by rw [F.out]; simp [insF, hA.out, hB.out, hC3.out, hD3.out, hE3.out, isOp])
  clear F hA hB hC3 hD3 hE3
  obtain ⟨b0, b1, b2⟩ := three0 KB.out
  obtain ⟨f0, f1, f2, f3, f4, f5, f6, f7⟩ := eight KX.out
  obtain ⟨c0, c1, c2, c3, c4⟩ := five0 KC.out
  have lb : _ < w3.heap.size := KB.out.1
  have lx : _ < w3.heap.size := KX.out.1
  have lc : _ < w3.heap.size := KC.out.1
  clear hgl hre hst hl hsl hc hs ht hx hsec KC KB KX
  go_wp2_with (first | (go_at_call 30; with_reducible refine Calls.mono (C100.out _) ?_; rintro e w9 ⟨rfl, rfl⟩) | (go_at_call 30; with_reducible refine Calls.mono (C115.out _) ?_; rintro e w9 ⟨rfl, rfl⟩))
  go_ret
  exact ⟨retB (F2.out.trans (by rfl)).symm, bel2 B1.out _ _⟩

set_option maxRecDepth 100000 in
set_option maxHeartbeats 4000000 in
theorem rin17 (c : Cd) (i k : Nat) (b : Bd) (dst src rc n tt : Int) (items index : List Itm) (iv xv : Value) (w : World) (hc : c.okW w) (hs : SmallP c) (ht : c.threads[i]? = some b) (hx : b.code[k]? = some ⟨17, dst, src, rc, n, tt, items, iv, index, xv⟩)
    (hl : ∀ (j : Nat) (l : Loc), b.slots[j]? = some l → locOk c.recs.length l = true) :
    Calls Tryd.prog 21 #[.agg #[c.rv, c.gv, c.tv, c.ev, c.cv], .int .i64 i, .int .i64 k] w fun e w' => e = .returned (.bool (insOk c i b k ⟨17, dst, src, rc, n, tt, items, iv, index, xv⟩)) ∧ Below w.heap.size w w' := by
  obtain ⟨a0, p0, a1, p1, bt, ot, p2, a3, p3, a4, p4, a5, p5, bi, oi, p6, a7, p7, a8, p8, e0, e1, e2, e3, e4, rfl, rfl, P⟩ := pre_any hc hs ht hx ⟨#[]⟩ false false false false false false false (by decide) (by decide) (by decide) (by decide) (by decide) (by decide) (by decide) (by decide) (by first | kernel_rfl | rfl | (simp [ByteArray.toList, ByteArray.toList.loop]; done))
  rw [e0, e1, e2, e3, e4]
  obtain ⟨C100, C115, C114, C110, C116, C105, C120, D100, D115, D114, D105, D120, hq, DI, BB, KC0, KB0, KX0, hsec, hsl, hgl, hre, hst, F, t0, t1, t2, d0, d1, d2, d3, d4, d5, d6, d7, ii, kk, hbt, hbi, q1, q3, q5, qs, qc⟩ := P
  generalize insOk c i b k ⟨17, dst, src, rc, n, tt, items, .slice a7 items.length p7, index, .slice a8 index.length p8⟩ = rr at *
  have HH := hid (fun W => Has17 W)
  clear e0 e1 e2 e3 e4
  replace hl := hid hl
  replace hc := hid hc
  replace hs := hid hs
  replace ht := hid ht
  replace hx := hid hx
  go_enter Tryd.func21, Tryd.ntmps21
  go_upto_region 4 with (go_at_call 29; refine Calls.mono (HH.out _) ?_; rintro e w1 ⟨rfl, hb⟩; have B1 := hid (bover BB.out hb); have KC := hid (KC0.out.kept hb); have KB := hid (KB0.out.kept hb); have KX := hid (KX0.out.kept hb); clear KC0 KB0 KX0 BB hb)
  obtain ⟨cA, hA⟩ : ∃ q, tA ⟨17, dst, src, rc, n, tt, items, .slice a7 items.length p7, index, .slice a8 index.length p8⟩ = q := ⟨_, rfl⟩
  replace hA := hid hA
  refine region4_any hq.out C100.out C115.out C114.out C110.out C116.out C105.out C120.out KX.out hA.out ?_
  intro g
  clear t0 t1 t2 d0 d1 d2 d3 d4 d5 d6 d7 HH hq ii q1 q3 q5 qs
  have h1000 : (b.code.length : Int) ≤ 1000 := by omega
  cases cA
  rotate_left
  · have G : Hid (rr = false) := hid (by rw [F.out]; simp [insF, hA.out])
    clear F DI KC KB KX hA hgl hre hst hl hsl hc hs ht hx hsec C100 C115 C114 C110 C116 C105 C120 D100 D115 D114 D105 D120
    go_wp2_with fail
    go_ret
    exact ⟨retB G.out.symm, B1.out⟩
  obtain ⟨b0, b1, b2⟩ := three0 KB.out
  go_upto_region 7 with fail
  clear b0 b1 b2
  obtain ⟨cB, hB⟩ : ∃ q, tB c b ⟨17, dst, src, rc, n, tt, items, .slice a7 items.length p7, index, .slice a8 index.length p8⟩ = q := ⟨_, rfl⟩
  replace hB := hid hB
  refine region7_any C100.out C115.out C105.out C120.out C114.out D100.out D115.out D114.out (D105.out.mono B1.out) (D120.out.mono B1.out) KX.out KC.out hB.out ?_
  intro w2 hb g2
  replace B1 := hid (bover B1.out hb)
  replace KC := hid (KC.out.kept hb)
  replace KB := hid (KB.out.kept hb)
  replace KX := hid (KX.out.kept hb)
  replace C100 : Hid (∀ W, Calls Tryd.prog 30 #[.string ⟨#[]⟩, .int .u8 100] W fun e w' => e = .returned (.bool false) ∧ w' = W) := C100
  replace C115 : Hid (∀ W, Calls Tryd.prog 30 #[.string ⟨#[]⟩, .int .u8 115] W fun e w' => e = .returned (.bool false) ∧ w' = W) := C115
  clear hb C105 C120 C114 D100 D115 D114 D105 D120
  cases cB
  rotate_left
  · have G : Hid (rr = false) := hid (by rw [F.out]; simp [insF, hB.out])
    clear F DI KC KB KX hgl hre hst hA hB hl hsl hc hs ht hx hsec C110 C116 C100 C115
    go_wp2_with fail
    go_ret
    exact ⟨retB G.out.symm, B1.out⟩
  have hC3 : Hid (tC c i b k ⟨17, dst, src, rc, n, tt, items, .slice a7 items.length p7, index, .slice a8 index.length p8⟩ = false) := hid rfl
  go_wp2_with fail
  go_quiet ((first | (go_at_call 30; exact Calls.quiet_of_same (C116.out _))))
  replace KC := hid (KC.out.kept (quietB (Below.refl _ _) nq))
  replace KB := hid (KB.out.kept (quietB (Below.refl _ _) nq))
  replace KX := hid (KX.out.kept (quietB (Below.refl _ _) nq))
  replace B1 := hid (quietB B1.out nq)
  generalize w2.drewN nq = w3 at *
  clear C116
  have hD3 : Hid (tD c i k ⟨17, dst, src, rc, n, tt, items, .slice a7 items.length p7, index, .slice a8 index.length p8⟩ = false) := hid rfl
  obtain ⟨b0, b1, b2⟩ := three0 KB.out
  obtain ⟨f0, f1, f2, f3, f4, f5, f6, f7⟩ := eight KX.out
  obtain ⟨c0, c1, c2, c3, c4⟩ := five0 KC.out
  have lb : _ < w3.heap.size := KB.out.1
  have lx : _ < w3.heap.size := KX.out.1
  have lc : _ < w3.heap.size := KC.out.1
  go_upto_region 13 with fail
  clear lb lx lc b0 b1 b2 f0 f1 f2 f3 f4 f5 f6 f7 c0 c1 c2 c3 c4
  cases z6 : ((k : Int) == (b.code.length : Int) - 1)
  · have G : Hid (rr = false) := hid (by rw [F.out]; simp [insF, tE, z6])
    clear F hA hB hC3 hD3 hgl hre hst hl hsl hc hs ht hx hsec C100 C115 C110
    obtain ⟨b0, b1, b2⟩ := three0 KB.out
    obtain ⟨f0, f1, f2, f3, f4, f5, f6, f7⟩ := eight KX.out
    obtain ⟨c0, c1, c2, c3, c4⟩ := five0 KC.out
    have lb : _ < w3.heap.size := KB.out.1
    have lx : _ < w3.heap.size := KX.out.1
    have lc : _ < w3.heap.size := KC.out.1
    go_wp2_with fail
    go_ret
    exact ⟨retB G.out.symm, B1.out⟩
  have hE3 : Hid (tE b k ⟨17, dst, src, rc, n, tt, items, .slice a7 items.length p7, index, .slice a8 index.length p8⟩ = false) := hid (by simp [tE, z6])
  have F2 : Hid (rr = agreesB c i b k ⟨17, dst, src, rc, n, tt, items, .slice a7 items.length p7, index, .slice a8 index.length p8⟩) := hid (by rw [F.out]; simp [insF, hA.out, hB.out, hC3.out, hD3.out, hE3.out, isOp])
  clear F hA hB hC3 hD3 hE3
  obtain ⟨b0, b1, b2⟩ := three0 KB.out
  obtain ⟨f0, f1, f2, f3, f4, f5, f6, f7⟩ := eight KX.out
  obtain ⟨c0, c1, c2, c3, c4⟩ := five0 KC.out
  have lb : _ < w3.heap.size := KB.out.1
  have lx : _ < w3.heap.size := KX.out.1
  have lc : _ < w3.heap.size := KC.out.1
  clear hgl hre hst hl hsl hc hs ht hx hsec KC KB KX
  go_wp2_with (first | (go_at_call 30; with_reducible refine Calls.mono (C100.out _) ?_; rintro e w9 ⟨rfl, rfl⟩) | (go_at_call 30; with_reducible refine Calls.mono (C115.out _) ?_; rintro e w9 ⟨rfl, rfl⟩))
  go_ret
  exact ⟨retB (F2.out.trans (by rfl)).symm, bel2 B1.out _ _⟩

end Go.Proofs.YtdpbapoahfggeaaDoor
