/- Contract of the document's instr: kinds 15, 16. -/
import Derived.Test.YtdpbapoahfggeaaDoorM12
import Derived.Test.YtdpbapoahfggeaaDoorM03
import Derived.Test.YtdpbapoahfggeaaDoorM02
namespace Go.Proofs.YtdpbapoahfggeaaDoor
open Go.ChangeShapes Go.WideShapes Go.ChangeAt Go.RowKit
set_option linter.unusedVariables false
set_option linter.unusedSimpArgs false

set_option maxRecDepth 100000 in
set_option maxHeartbeats 4000000 in
theorem rin15 (c : Cd) (i k : Nat) (b : Bd) (dst src rc n tt : Int) (items index : List Itm) (iv xv : Value) (w : World) (hc : c.okW w) (hs : SmallP c) (ht : c.threads[i]? = some b) (hx : b.code[k]? = some ⟨15, dst, src, rc, n, tt, items, iv, index, xv⟩)
    (hl : ∀ (j : Nat) (l : Loc), b.slots[j]? = some l → locOk c.recs.length l = true) :
    Calls Tryd.prog 21 #[.agg #[c.rv, c.gv, c.tv, c.ev, c.cv], .int .i64 i, .int .i64 k] w fun e w' => e = .returned (.bool (insOk c i b k ⟨15, dst, src, rc, n, tt, items, iv, index, xv⟩)) ∧ Below w.heap.size w w' := by
  obtain ⟨a0, p0, a1, p1, bt, ot, p2, a3, p3, a4, p4, a5, p5, bi, oi, p6, a7, p7, a8, p8, e0, e1, e2, e3, e4, rfl, rfl, P⟩ := pre_any hc hs ht hx ⟨#[110]⟩ false false false true false false false (by decide) (by decide) (by decide) (by decide) (by decide) (by decide) (by decide) (by decide) (by first | kernel_rfl | rfl | (simp [ByteArray.toList, ByteArray.toList.loop]; done))
  rw [e0, e1, e2, e3, e4]
  obtain ⟨C100, C115, C114, C110, C116, C105, C120, D100, D115, D114, D105, D120, hq, DI, BB, KC0, KB0, KX0, hsec, hsl, hgl, hre, hst, F, t0, t1, t2, d0, d1, d2, d3, d4, d5, d6, d7, ii, kk, hbt, hbi, q1, q3, q5, qs, qc⟩ := P
  generalize insOk c i b k ⟨15, dst, src, rc, n, tt, items, .slice a7 items.length p7, index, .slice a8 index.length p8⟩ = rr at *
  have HH := hid (fun W => Has15 W)
  clear e0 e1 e2 e3 e4
  replace hl := hid hl
  replace hc := hid hc
  replace hs := hid hs
  replace ht := hid ht
  replace hx := hid hx
  go_enter Tryd.func21, Tryd.ntmps21
  go_upto_region 4 with (go_at_call 29; refine Calls.mono (HH.out _) ?_; rintro e w1 ⟨rfl, hb⟩; have B1 := hid (bover BB.out hb); have KC := hid (KC0.out.kept hb); have KB := hid (KB0.out.kept hb); have KX := hid (KX0.out.kept hb); clear KC0 KB0 KX0 BB hb)
  obtain ⟨cA, hA⟩ : ∃ q, tA ⟨15, dst, src, rc, n, tt, items, .slice a7 items.length p7, index, .slice a8 index.length p8⟩ = q := ⟨_, rfl⟩
  replace hA := hid hA
  refine region4_any hq.out C100.out C115.out C114.out C110.out C116.out C105.out C120.out KX.out hA.out ?_
  intro g
  clear t0 t1 t2 d0 d1 d2 d3 d4 d5 d6 d7 HH hq ii q1 q3 q5 qs
  have h1000 : (b.code.length : Int) ≤ 1000 := by omega
  cases cA
  rotate_left
  · have G : Hid (rr = false) := hid (by rw [F.out]; simp [insF, hA.out])
    clear F DI KC KB KX hA hgl hre hst hl hsl hc hs ht hx hsec C100 C115 C114 C110 C116 C105 C120 D100 D115 D114 D105 D120
    go_wp2_with fail
    go_ret
    exact ⟨retB G.out.symm, B1.out⟩
  obtain ⟨b0, b1, b2⟩ := three0 KB.out
  go_upto_region 7 with fail
  clear b0 b1 b2
  obtain ⟨cB, hB⟩ : ∃ q, tB c b ⟨15, dst, src, rc, n, tt, items, .slice a7 items.length p7, index, .slice a8 index.length p8⟩ = q := ⟨_, rfl⟩
  replace hB := hid hB
  refine region7_any C100.out C115.out C105.out C120.out C114.out D100.out D115.out D114.out (D105.out.mono B1.out) (D120.out.mono B1.out) KX.out KC.out hB.out ?_
  intro w2 hb g2
  replace B1 := hid (bover B1.out hb)
  replace KC := hid (KC.out.kept hb)
  replace KB := hid (KB.out.kept hb)
  replace KX := hid (KX.out.kept hb)
  replace C100 : Hid (∀ W, Calls Tryd.prog 30 #[.string ⟨#[110]⟩, .int .u8 100] W fun e w' => e = .returned (.bool false) ∧ w' = W) := C100
  replace C115 : Hid (∀ W, Calls Tryd.prog 30 #[.string ⟨#[110]⟩, .int .u8 115] W fun e w' => e = .returned (.bool false) ∧ w' = W) := C115
  clear hb C105 C120 C114 D100 D115 D114 D105 D120
  cases cB
  rotate_left
  · have G : Hid (rr = false) := hid (by rw [F.out]; simp [insF, hB.out])
    clear F DI KC KB KX hgl hre hst hA hB hl hsl hc hs ht hx hsec C110 C116 C100 C115
    go_wp2_with fail
    go_ret
    exact ⟨retB G.out.symm, B1.out⟩
  have hC3 : Hid (tC c i b k ⟨15, dst, src, rc, n, tt, items, .slice a7 items.length p7, index, .slice a8 index.length p8⟩ = false) := hid rfl
  go_wp2_with fail
  go_quiet ((first | (go_at_call 30; exact Calls.quiet_of_same (C116.out _))))
  replace KC := hid (KC.out.kept (quietB (Below.refl _ _) nq))
  replace KB := hid (KB.out.kept (quietB (Below.refl _ _) nq))
  replace KX := hid (KX.out.kept (quietB (Below.refl _ _) nq))
  replace B1 := hid (quietB B1.out nq)
  generalize w2.drewN nq = w3 at *
  clear C116
  have hD3 : Hid (tD c i k ⟨15, dst, src, rc, n, tt, items, .slice a7 items.length p7, index, .slice a8 index.length p8⟩ = false) := hid rfl
  obtain ⟨b0, b1, b2⟩ := three0 KB.out
  obtain ⟨f0, f1, f2, f3, f4, f5, f6, f7⟩ := eight KX.out
  obtain ⟨c0, c1, c2, c3, c4⟩ := five0 KC.out
  have lb : _ < w3.heap.size := KB.out.1
  have lx : _ < w3.heap.size := KX.out.1
  have lc : _ < w3.heap.size := KC.out.1
  go_upto_region 13 with fail
  clear lb lx lc b0 b1 b2 f0 f1 f2 f3 f4 f5 f6 f7 c0 c1 c2 c3 c4
  cases z6 : ((k : Int) == (b.code.length : Int) - 1)
  rotate_left
  · have G : Hid (rr = false) := hid (by rw [F.out]; simp [insF, tE, z6])
    clear F hA hB hC3 hD3 hgl hre hst hl hsl hc hs ht hx hsec C100 C115 C110
    obtain ⟨b0, b1, b2⟩ := three0 KB.out
    obtain ⟨f0, f1, f2, f3, f4, f5, f6, f7⟩ := eight KX.out
    obtain ⟨c0, c1, c2, c3, c4⟩ := five0 KC.out
    have lb : _ < w3.heap.size := KB.out.1
    have lx : _ < w3.heap.size := KX.out.1
    have lc : _ < w3.heap.size := KC.out.1
    go_wp2_with fail
    go_ret
    exact ⟨retB G.out.symm, B1.out⟩
  have hE3 : Hid (tE b k ⟨15, dst, src, rc, n, tt, items, .slice a7 items.length p7, index, .slice a8 index.length p8⟩ = false) := hid (by simp [tE, z6])
  have F2 : Hid (rr = agreesB c i b k ⟨15, dst, src, rc, n, tt, items, .slice a7 items.length p7, index, .slice a8 index.length p8⟩) := hid (by rw [F.out]; simp [insF, hA.out, hB.out, hC3.out, hD3.out, hE3.out, isOp])
  clear F hA hB hC3 hD3 hE3
  clear DI
  cases rN : isIn n c.secs.length
  · have G : Hid (rr = false) := hid (F2.out.trans (by show (isIn n c.secs.length && _) = false; rw [rN]; rfl))
    have NN : Hid (∀ W, Calls Tryd.prog 20 #[.int .i64 n, .int .i64 (c.secs.length : Int)] W fun e w' => e = .returned (.bool false) ∧ w' = W) := hid (fun W => by have h := in_any n (c.secs.length : Int) c.secs.length rfl W; rw [rN] at h; exact h)
    clear F2 rN hgl hre hst hl hsl hc hs ht hx hsec
    obtain ⟨b0, b1, b2⟩ := three0 KB.out
    obtain ⟨f0, f1, f2, f3, f4, f5, f6, f7⟩ := eight KX.out
    obtain ⟨c0, c1, c2, c3, c4⟩ := five0 KC.out
    have lb : _ < w3.heap.size := KB.out.1
    have lx : _ < w3.heap.size := KX.out.1
    have lc : _ < w3.heap.size := KC.out.1
    clear KC KB KX
    go_wp2_with (first | (go_at_call 30; with_reducible refine Calls.mono (C100.out _) ?_; rintro e w9 ⟨rfl, rfl⟩) | (go_at_call 30; with_reducible refine Calls.mono (C115.out _) ?_; rintro e w9 ⟨rfl, rfl⟩) | (go_at_call 20; with_reducible refine Calls.mono (NN.out _) ?_; rintro e w9 ⟨rfl, rfl⟩))
    go_ret
    exact ⟨retB G.out.symm, bel2 B1.out _ _⟩
  obtain ⟨kn, rfl, hkn⟩ := isIn_nat rN
  obtain ⟨sn, hsn⟩ : ∃ q, c.secs[kn]? = some q := ⟨c.secs[kn], by simp [hkn]⟩
  obtain ⟨bn, on, cn, en, hbn, y0, y1, y2⟩ := sec_cells hsec.out hsn
  cases en
  have kn2 : (kn : Int) < (c.secs.length : Int) := by omega
  have eg : c.secs.getD (kn : Int).toNat Sec.z = sn := by simp [List.getD, hsn]
  have F3 : Hid (rr = ((sn.th == (i : Int)) && (sn.fr == (k : Int)))) := hid (F2.out.trans (by show (isIn (kn : Int) c.secs.length && ((c.secs.getD (kn : Int).toNat Sec.z).th == (i : Int) && (c.secs.getD (kn : Int).toNat Sec.z).fr == (k : Int))) = _; rw [rN, eg]; rfl))
  have NN : Hid (∀ W, Calls Tryd.prog 20 #[.int .i64 (kn : Int), .int .i64 (c.secs.length : Int)] W fun e w' => e = .returned (.bool true) ∧ w' = W) := hid (fun W => by have h := in_any (kn : Int) (c.secs.length : Int) c.secs.length rfl W; rw [rN] at h; exact h)
  clear F2 rN eg
  replace hsn := hid hsn
  obtain ⟨b0, b1, b2⟩ := three0 KB.out
  obtain ⟨f0, f1, f2, f3, f4, f5, f6, f7⟩ := eight KX.out
  obtain ⟨c0, c1, c2, c3, c4⟩ := five0 KC.out
  have lb : _ < w3.heap.size := KB.out.1
  have lx : _ < w3.heap.size := KX.out.1
  have lc : _ < w3.heap.size := KC.out.1
  have lbn : _ < w3.heap.size := Nat.lt_of_lt_of_le hbn B1.out.size
  rw [← B1.out.cell hbn] at y0 y1 y2
  clear hgl hre hst hl hsl hc hs ht hx hsec KC KB KX
  cases q1 : (sn.th == (i : Int))
  · go_wp2_with (first | (go_at_call 30; with_reducible refine Calls.mono (C100.out _) ?_; rintro e w9 ⟨rfl, rfl⟩) | (go_at_call 30; with_reducible refine Calls.mono (C115.out _) ?_; rintro e w9 ⟨rfl, rfl⟩) | (go_at_call 20; with_reducible refine Calls.mono (NN.out _) ?_; rintro e w9 ⟨rfl, rfl⟩))
    go_ret
    exact ⟨retB (F3.out.trans (by simp [*])).symm, bel2 B1.out _ _⟩
  · go_wp2_with (first | (go_at_call 30; with_reducible refine Calls.mono (C100.out _) ?_; rintro e w9 ⟨rfl, rfl⟩) | (go_at_call 30; with_reducible refine Calls.mono (C115.out _) ?_; rintro e w9 ⟨rfl, rfl⟩) | (go_at_call 20; with_reducible refine Calls.mono (NN.out _) ?_; rintro e w9 ⟨rfl, rfl⟩))
    go_ret
    exact ⟨retB (F3.out.trans (by simp [*])).symm, bel2 B1.out _ _⟩

set_option maxRecDepth 100000 in
set_option maxHeartbeats 4000000 in
theorem rin16 (c : Cd) (i k : Nat) (b : Bd) (dst src rc n tt : Int) (items index : List Itm) (iv xv : Value) (w : World) (hc : c.okW w) (hs : SmallP c) (ht : c.threads[i]? = some b) (hx : b.code[k]? = some ⟨16, dst, src, rc, n, tt, items, iv, index, xv⟩)
    (hl : ∀ (j : Nat) (l : Loc), b.slots[j]? = some l → locOk c.recs.length l = true) :
    Calls Tryd.prog 21 #[.agg #[c.rv, c.gv, c.tv, c.ev, c.cv], .int .i64 i, .int .i64 k] w fun e w' => e = .returned (.bool (insOk c i b k ⟨16, dst, src, rc, n, tt, items, iv, index, xv⟩)) ∧ Below w.heap.size w w' := by
  obtain ⟨a0, p0, a1, p1, bt, ot, p2, a3, p3, a4, p4, a5, p5, bi, oi, p6, a7, p7, a8, p8, e0, e1, e2, e3, e4, rfl, rfl, P⟩ := pre_any hc hs ht hx ⟨#[110]⟩ false false false true false false false (by decide) (by decide) (by decide) (by decide) (by decide) (by decide) (by decide) (by decide) (by first | kernel_rfl | rfl | (simp [ByteArray.toList, ByteArray.toList.loop]; done))
  rw [e0, e1, e2, e3, e4]
  obtain ⟨C100, C115, C114, C110, C116, C105, C120, D100, D115, D114, D105, D120, hq, DI, BB, KC0, KB0, KX0, hsec, hsl, hgl, hre, hst, F, t0, t1, t2, d0, d1, d2, d3, d4, d5, d6, d7, ii, kk, hbt, hbi, q1, q3, q5, qs, qc⟩ := P
  generalize insOk c i b k ⟨16, dst, src, rc, n, tt, items, .slice a7 items.length p7, index, .slice a8 index.length p8⟩ = rr at *
  have HH := hid (fun W => Has16 W)
  clear e0 e1 e2 e3 e4
  replace hl := hid hl
  replace hc := hid hc
  replace hs := hid hs
  replace ht := hid ht
  replace hx := hid hx
  go_enter Tryd.func21, Tryd.ntmps21
  go_upto_region 4 with (go_at_call 29; refine Calls.mono (HH.out _) ?_; rintro e w1 ⟨rfl, hb⟩; have B1 := hid (bover BB.out hb); have KC := hid (KC0.out.kept hb); have KB := hid (KB0.out.kept hb); have KX := hid (KX0.out.kept hb); clear KC0 KB0 KX0 BB hb)
  obtain ⟨cA, hA⟩ : ∃ q, tA ⟨16, dst, src, rc, n, tt, items, .slice a7 items.length p7, index, .slice a8 index.length p8⟩ = q := ⟨_, rfl⟩
  replace hA := hid hA
  refine region4_any hq.out C100.out C115.out C114.out C110.out C116.out C105.out C120.out KX.out hA.out ?_
  intro g
  clear t0 t1 t2 d0 d1 d2 d3 d4 d5 d6 d7 HH hq ii q1 q3 q5 qs
  have h1000 : (b.code.length : Int) ≤ 1000 := by omega
  cases cA
  rotate_left
  · have G : Hid (rr = false) := hid (by rw [F.out]; simp [insF, hA.out])
    clear F DI KC KB KX hA hgl hre hst hl hsl hc hs ht hx hsec C100 C115 C114 C110 C116 C105 C120 D100 D115 D114 D105 D120
    go_wp2_with fail
    go_ret
    exact ⟨retB G.out.symm, B1.out⟩
  obtain ⟨b0, b1, b2⟩ := three0 KB.out
  go_upto_region 7 with fail
  clear b0 b1 b2
  obtain ⟨cB, hB⟩ : ∃ q, tB c b ⟨16, dst, src, rc, n, tt, items, .slice a7 items.length p7, index, .slice a8 index.length p8⟩ = q := ⟨_, rfl⟩
  replace hB := hid hB
  refine region7_any C100.out C115.out C105.out C120.out C114.out D100.out D115.out D114.out (D105.out.mono B1.out) (D120.out.mono B1.out) KX.out KC.out hB.out ?_
  intro w2 hb g2
  replace B1 := hid (bover B1.out hb)
  replace KC := hid (KC.out.kept hb)
  replace KB := hid (KB.out.kept hb)
  replace KX := hid (KX.out.kept hb)
  replace C100 : Hid (∀ W, Calls Tryd.prog 30 #[.string ⟨#[110]⟩, .int .u8 100] W fun e w' => e = .returned (.bool false) ∧ w' = W) := C100
  replace C115 : Hid (∀ W, Calls Tryd.prog 30 #[.string ⟨#[110]⟩, .int .u8 115] W fun e w' => e = .returned (.bool false) ∧ w' = W) := C115
  clear hb C105 C120 C114 D100 D115 D114 D105 D120
  cases cB
  rotate_left
  · have G : Hid (rr = false) := hid (by rw [F.out]; simp [insF, hB.out])
    clear F DI KC KB KX hgl hre hst hA hB hl hsl hc hs ht hx hsec C110 C116 C100 C115
    go_wp2_with fail
    go_ret
    exact ⟨retB G.out.symm, B1.out⟩
  have hC3 : Hid (tC c i b k ⟨16, dst, src, rc, n, tt, items, .slice a7 items.length p7, index, .slice a8 index.length p8⟩ = false) := hid rfl
  go_wp2_with fail
  go_quiet ((first | (go_at_call 30; exact Calls.quiet_of_same (C116.out _))))
  replace KC := hid (KC.out.kept (quietB (Below.refl _ _) nq))
  replace KB := hid (KB.out.kept (quietB (Below.refl _ _) nq))
  replace KX := hid (KX.out.kept (quietB (Below.refl _ _) nq))
  replace B1 := hid (quietB B1.out nq)
  generalize w2.drewN nq = w3 at *
  clear C116
  have hD3 : Hid (tD c i k ⟨16, dst, src, rc, n, tt, items, .slice a7 items.length p7, index, .slice a8 index.length p8⟩ = false) := hid rfl
  obtain ⟨b0, b1, b2⟩ := three0 KB.out
  obtain ⟨f0, f1, f2, f3, f4, f5, f6, f7⟩ := eight KX.out
  obtain ⟨c0, c1, c2, c3, c4⟩ := five0 KC.out
  have lb : _ < w3.heap.size := KB.out.1
  have lx : _ < w3.heap.size := KX.out.1
  have lc : _ < w3.heap.size := KC.out.1
  go_upto_region 13 with fail
  clear lb lx lc b0 b1 b2 f0 f1 f2 f3 f4 f5 f6 f7 c0 c1 c2 c3 c4
  cases z6 : ((k : Int) == (b.code.length : Int) - 1)
  rotate_left
  · have G : Hid (rr = false) := hid (by rw [F.out]; simp [insF, tE, z6])
    clear F hA hB hC3 hD3 hgl hre hst hl hsl hc hs ht hx hsec C100 C115 C110
    obtain ⟨b0, b1, b2⟩ := three0 KB.out
    obtain ⟨f0, f1, f2, f3, f4, f5, f6, f7⟩ := eight KX.out
    obtain ⟨c0, c1, c2, c3, c4⟩ := five0 KC.out
    have lb : _ < w3.heap.size := KB.out.1
    have lx : _ < w3.heap.size := KX.out.1
    have lc : _ < w3.heap.size := KC.out.1
    go_wp2_with fail
    go_ret
    exact ⟨retB G.out.symm, B1.out⟩
  have hE3 : Hid (tE b k ⟨16, dst, src, rc, n, tt, items, .slice a7 items.length p7, index, .slice a8 index.length p8⟩ = false) := hid (by simp [tE, z6])
  have F2 : Hid (rr = agreesB c i b k ⟨16, dst, src, rc, n, tt, items, .slice a7 items.length p7, index, .slice a8 index.length p8⟩) := hid (by rw [F.out]; simp [insF, hA.out, hB.out, hC3.out, hD3.out, hE3.out, isOp])
  clear F hA hB hC3 hD3 hE3
  clear DI
  cases rN : isIn n c.secs.length
  · have G : Hid (rr = false) := hid (F2.out.trans (by show (isIn n c.secs.length && _) = false; rw [rN]; rfl))
    have NN : Hid (∀ W, Calls Tryd.prog 20 #[.int .i64 n, .int .i64 (c.secs.length : Int)] W fun e w' => e = .returned (.bool false) ∧ w' = W) := hid (fun W => by have h := in_any n (c.secs.length : Int) c.secs.length rfl W; rw [rN] at h; exact h)
    clear F2 rN hgl hre hst hl hsl hc hs ht hx hsec
    obtain ⟨b0, b1, b2⟩ := three0 KB.out
    obtain ⟨f0, f1, f2, f3, f4, f5, f6, f7⟩ := eight KX.out
    obtain ⟨c0, c1, c2, c3, c4⟩ := five0 KC.out
    have lb : _ < w3.heap.size := KB.out.1
    have lx : _ < w3.heap.size := KX.out.1
    have lc : _ < w3.heap.size := KC.out.1
    clear KC KB KX
    go_wp2_with (first | (go_at_call 30; with_reducible refine Calls.mono (C100.out _) ?_; rintro e w9 ⟨rfl, rfl⟩) | (go_at_call 30; with_reducible refine Calls.mono (C115.out _) ?_; rintro e w9 ⟨rfl, rfl⟩) | (go_at_call 20; with_reducible refine Calls.mono (NN.out _) ?_; rintro e w9 ⟨rfl, rfl⟩))
    go_ret
    exact ⟨retB G.out.symm, bel2 B1.out _ _⟩
  obtain ⟨kn, rfl, hkn⟩ := isIn_nat rN
  obtain ⟨sn, hsn⟩ : ∃ q, c.secs[kn]? = some q := ⟨c.secs[kn], by simp [hkn]⟩
  obtain ⟨bn, on, cn, en, hbn, y0, y1, y2⟩ := sec_cells hsec.out hsn
  cases en
  have kn2 : (kn : Int) < (c.secs.length : Int) := by omega
  have eg : c.secs.getD (kn : Int).toNat Sec.z = sn := by simp [List.getD, hsn]
  have F3 : Hid (rr = ((sn.th == (i : Int)) && (sn.to == (k : Int)))) := hid (F2.out.trans (by show (isIn (kn : Int) c.secs.length && ((c.secs.getD (kn : Int).toNat Sec.z).th == (i : Int) && (c.secs.getD (kn : Int).toNat Sec.z).to == (k : Int))) = _; rw [rN, eg]; rfl))
  have NN : Hid (∀ W, Calls Tryd.prog 20 #[.int .i64 (kn : Int), .int .i64 (c.secs.length : Int)] W fun e w' => e = .returned (.bool true) ∧ w' = W) := hid (fun W => by have h := in_any (kn : Int) (c.secs.length : Int) c.secs.length rfl W; rw [rN] at h; exact h)
  clear F2 rN eg
  replace hsn := hid hsn
  obtain ⟨b0, b1, b2⟩ := three0 KB.out
  obtain ⟨f0, f1, f2, f3, f4, f5, f6, f7⟩ := eight KX.out
  obtain ⟨c0, c1, c2, c3, c4⟩ := five0 KC.out
  have lb : _ < w3.heap.size := KB.out.1
  have lx : _ < w3.heap.size := KX.out.1
  have lc : _ < w3.heap.size := KC.out.1
  have lbn : _ < w3.heap.size := Nat.lt_of_lt_of_le hbn B1.out.size
  rw [← B1.out.cell hbn] at y0 y1 y2
  clear hgl hre hst hl hsl hc hs ht hx hsec KC KB KX
  cases q1 : (sn.th == (i : Int))
  · go_wp2_with (first | (go_at_call 30; with_reducible refine Calls.mono (C100.out _) ?_; rintro e w9 ⟨rfl, rfl⟩) | (go_at_call 30; with_reducible refine Calls.mono (C115.out _) ?_; rintro e w9 ⟨rfl, rfl⟩) | (go_at_call 20; with_reducible refine Calls.mono (NN.out _) ?_; rintro e w9 ⟨rfl, rfl⟩))
    go_ret
    exact ⟨retB (F3.out.trans (by simp [*])).symm, bel2 B1.out _ _⟩
  · go_wp2_with (first | (go_at_call 30; with_reducible refine Calls.mono (C100.out _) ?_; rintro e w9 ⟨rfl, rfl⟩) | (go_at_call 30; with_reducible refine Calls.mono (C115.out _) ?_; rintro e w9 ⟨rfl, rfl⟩) | (go_at_call 20; with_reducible refine Calls.mono (NN.out _) ?_; rintro e w9 ⟨rfl, rfl⟩))
    go_ret
    exact ⟨retB (F3.out.trans (by simp [*])).symm, bel2 B1.out _ _⟩

end Go.Proofs.YtdpbapoahfggeaaDoor

/- Contract of the document's instr: kinds 2. -/
namespace Go.Proofs.YtdpbapoahfggeaaDoor
open Go.ChangeShapes Go.WideShapes Go.ChangeAt Go.RowKit
set_option linter.unusedVariables false
set_option linter.unusedSimpArgs false

set_option maxRecDepth 100000 in
set_option maxHeartbeats 4000000 in
theorem rin2 (c : Cd) (i k : Nat) (b : Bd) (dst src rc n tt : Int) (items index : List Itm) (iv xv : Value) (w : World) (hc : c.okW w) (hs : SmallP c) (ht : c.threads[i]? = some b) (hx : b.code[k]? = some ⟨2, dst, src, rc, n, tt, items, iv, index, xv⟩)
    (hl : ∀ (j : Nat) (l : Loc), b.slots[j]? = some l → locOk c.recs.length l = true) :
    Calls Tryd.prog 21 #[.agg #[c.rv, c.gv, c.tv, c.ev, c.cv], .int .i64 i, .int .i64 k] w fun e w' => e = .returned (.bool (insOk c i b k ⟨2, dst, src, rc, n, tt, items, iv, index, xv⟩)) ∧ Below w.heap.size w w' := by
  obtain ⟨a0, p0, a1, p1, bt, ot, p2, a3, p3, a4, p4, a5, p5, bi, oi, p6, a7, p7, a8, p8, e0, e1, e2, e3, e4, rfl, rfl, P⟩ := pre_any hc hs ht hx ⟨#[100, 110]⟩ true false false true false false false (by decide) (by decide) (by decide) (by decide) (by decide) (by decide) (by decide) (by decide) (by first | kernel_rfl | rfl | (simp [ByteArray.toList, ByteArray.toList.loop]; done))
  rw [e0, e1, e2, e3, e4]
  obtain ⟨C100, C115, C114, C110, C116, C105, C120, D100, D115, D114, D105, D120, hq, DI, BB, KC0, KB0, KX0, hsec, hsl, hgl, hre, hst, F, t0, t1, t2, d0, d1, d2, d3, d4, d5, d6, d7, ii, kk, hbt, hbi, q1, q3, q5, qs, qc⟩ := P
  generalize insOk c i b k ⟨2, dst, src, rc, n, tt, items, .slice a7 items.length p7, index, .slice a8 index.length p8⟩ = rr at *
  have HH := hid (fun W => Has2 W)
  clear e0 e1 e2 e3 e4
  replace hl := hid hl
  replace hc := hid hc
  replace hs := hid hs
  replace ht := hid ht
  replace hx := hid hx
  go_enter Tryd.func21, Tryd.ntmps21
  go_upto_region 4 with (go_at_call 29; refine Calls.mono (HH.out _) ?_; rintro e w1 ⟨rfl, hb⟩; have B1 := hid (bover BB.out hb); have KC := hid (KC0.out.kept hb); have KB := hid (KB0.out.kept hb); have KX := hid (KX0.out.kept hb); clear KC0 KB0 KX0 BB hb)
  obtain ⟨cA, hA⟩ : ∃ q, tA ⟨2, dst, src, rc, n, tt, items, .slice a7 items.length p7, index, .slice a8 index.length p8⟩ = q := ⟨_, rfl⟩
  replace hA := hid hA
  refine region4_any hq.out C100.out C115.out C114.out C110.out C116.out C105.out C120.out KX.out hA.out ?_
  intro g
  clear t0 t1 t2 d0 d1 d2 d3 d4 d5 d6 d7 HH hq ii q1 q3 q5 qs
  have h1000 : (b.code.length : Int) ≤ 1000 := by omega
  cases cA
  rotate_left
  · have G : Hid (rr = false) := hid (by rw [F.out]; simp [insF, hA.out])
    clear F DI KC KB KX hA hgl hre hst hl hsl hc hs ht hx hsec C100 C115 C114 C110 C116 C105 C120 D100 D115 D114 D105 D120
    go_wp2_with fail
    go_ret
    exact ⟨retB G.out.symm, B1.out⟩
  obtain ⟨b0, b1, b2⟩ := three0 KB.out
  go_upto_region 7 with fail
  clear b0 b1 b2
  obtain ⟨cB, hB⟩ : ∃ q, tB c b ⟨2, dst, src, rc, n, tt, items, .slice a7 items.length p7, index, .slice a8 index.length p8⟩ = q := ⟨_, rfl⟩
  replace hB := hid hB
  refine region7_any C100.out C115.out C105.out C120.out C114.out D100.out D115.out D114.out (D105.out.mono B1.out) (D120.out.mono B1.out) KX.out KC.out hB.out ?_
  intro w2 hb g2
  replace B1 := hid (bover B1.out hb)
  replace KC := hid (KC.out.kept hb)
  replace KB := hid (KB.out.kept hb)
  replace KX := hid (KX.out.kept hb)
  replace C100 : Hid (∀ W, Calls Tryd.prog 30 #[.string ⟨#[100, 110]⟩, .int .u8 100] W fun e w' => e = .returned (.bool true) ∧ w' = W) := C100
  replace C115 : Hid (∀ W, Calls Tryd.prog 30 #[.string ⟨#[100, 110]⟩, .int .u8 115] W fun e w' => e = .returned (.bool false) ∧ w' = W) := C115
  clear hb C105 C120 C114 D100 D115 D114 D105 D120
  cases cB
  rotate_left
  · have G : Hid (rr = false) := hid (by rw [F.out]; simp [insF, hB.out])
    clear F DI KC KB KX hgl hre hst hA hB hl hsl hc hs ht hx hsec C110 C116 C100 C115
    go_wp2_with fail
    go_ret
    exact ⟨retB G.out.symm, B1.out⟩
  obtain ⟨kd, ekd, hkd⟩ := isIn_nat (tB_d hB.out (by rfl))
  simp only at ekd
  subst ekd
  obtain ⟨sd, hsd⟩ : ∃ sd, b.slots[kd]? = some sd := ⟨b.slots[kd], by simp [hkd]⟩
  obtain ⟨bs, os, cs, es, hbs, u0, u1, u2⟩ := loc_cells hsl.out hsd
  cases es
  have kd2 : (kd : Int) < (b.slots.length : Int) := by omega
  replace hsd := hid hsd
  have hC3 : Hid (tC c i b k ⟨2, (kd : Int), src, rc, n, tt, items, .slice a7 items.length p7, index, .slice a8 index.length p8⟩ = false) := hid rfl
  go_wp2_with fail
  go_quiet ((first | (go_at_call 30; exact Calls.quiet_of_same (C116.out _))))
  replace KC := hid (KC.out.kept (quietB (Below.refl _ _) nq))
  replace KB := hid (KB.out.kept (quietB (Below.refl _ _) nq))
  replace KX := hid (KX.out.kept (quietB (Below.refl _ _) nq))
  replace B1 := hid (quietB B1.out nq)
  generalize w2.drewN nq = w3 at *
  clear C116
  by_cases hin : inside c.secs i k < 0
  · have G : Hid (rr = false) := hid (by rw [F.out]; simp [insF, tD, touchB, hin])
    clear F hA hB hC3 hgl hre hst hl hsl hc hs ht hx hsec C100 C115 C110
    obtain ⟨b0, b1, b2⟩ := three0 KB.out
    obtain ⟨f0, f1, f2, f3, f4, f5, f6, f7⟩ := eight KX.out
    obtain ⟨c0, c1, c2, c3, c4⟩ := five0 KC.out
    have lb : _ < w3.heap.size := KB.out.1
    have lx : _ < w3.heap.size := KX.out.1
    have lc : _ < w3.heap.size := KC.out.1
    go_wp2_with (go_at_call 32; refine Calls.mono (DI.out _ _ B1.out) ?_; rintro e w4 ⟨rfl, hb⟩)
    go_ret
    exact ⟨retB G.out.symm, bover B1.out hb⟩
  have hin2 : (0 : Int) ≤ inside c.secs i k := by omega
  have hD3 : Hid (tD c i k ⟨2, (kd : Int), src, rc, n, tt, items, .slice a7 items.length p7, index, .slice a8 index.length p8⟩ = false) := hid (by simp [tD, hin])
  clear hin
  obtain ⟨b0, b1, b2⟩ := three0 KB.out
  obtain ⟨f0, f1, f2, f3, f4, f5, f6, f7⟩ := eight KX.out
  obtain ⟨c0, c1, c2, c3, c4⟩ := five0 KC.out
  have lb : _ < w3.heap.size := KB.out.1
  have lx : _ < w3.heap.size := KX.out.1
  have lc : _ < w3.heap.size := KC.out.1
  go_upto_region 13 with (go_at_call 32; refine Calls.mono (DI.out _ _ B1.out) ?_; rintro e w4 ⟨rfl, hb⟩; replace B1 := hid (bover B1.out hb); replace KC := hid (KC.out.kept hb); replace KB := hid (KB.out.kept hb); replace KX := hid (KX.out.kept hb); clear hb lb lx lc b0 b1 b2 f0 f1 f2 f3 f4 f5 f6 f7 c0 c1 c2 c3 c4)
  clear DI hin2
  cases z6 : ((k : Int) == (b.code.length : Int) - 1)
  rotate_left
  · have G : Hid (rr = false) := hid (by rw [F.out]; simp [insF, tE, z6])
    clear F hA hB hC3 hD3 hgl hre hst hl hsl hc hs ht hx hsec C100 C115 C110
    obtain ⟨b0, b1, b2⟩ := three0 KB.out
    obtain ⟨f0, f1, f2, f3, f4, f5, f6, f7⟩ := eight KX.out
    obtain ⟨c0, c1, c2, c3, c4⟩ := five0 KC.out
    have lb : _ < w4.heap.size := KB.out.1
    have lx : _ < w4.heap.size := KX.out.1
    have lc : _ < w4.heap.size := KC.out.1
    go_wp2_with fail
    go_ret
    exact ⟨retB G.out.symm, B1.out⟩
  have hE3 : Hid (tE b k ⟨2, (kd : Int), src, rc, n, tt, items, .slice a7 items.length p7, index, .slice a8 index.length p8⟩ = false) := hid (by simp [tE, z6])
  have F2 : Hid (rr = agreesB c i b k ⟨2, (kd : Int), src, rc, n, tt, items, .slice a7 items.length p7, index, .slice a8 index.length p8⟩) := hid (by rw [F.out]; simp [insF, hA.out, hB.out, hC3.out, hD3.out, hE3.out, isOp])
  clear F hA hB hC3 hD3 hE3
  cases rN : isIn n c.globs.length
  · have G : Hid (rr = false) := hid (F2.out.trans (by show (isIn n c.globs.length && _) = false; rw [rN]; rfl))
    have NN : Hid (∀ W, Calls Tryd.prog 20 #[.int .i64 n, .int .i64 (c.globs.length : Int)] W fun e w' => e = .returned (.bool false) ∧ w' = W) := hid (fun W => by have h := in_any n (c.globs.length : Int) c.globs.length rfl W; rw [rN] at h; exact h)
    clear F2 rN
    obtain ⟨b0, b1, b2⟩ := three0 KB.out
    obtain ⟨f0, f1, f2, f3, f4, f5, f6, f7⟩ := eight KX.out
    obtain ⟨c0, c1, c2, c3, c4⟩ := five0 KC.out
    have lb : _ < w4.heap.size := KB.out.1
    have lx : _ < w4.heap.size := KX.out.1
    have lc : _ < w4.heap.size := KC.out.1
    have lbs : _ < w4.heap.size := Nat.lt_of_lt_of_le hbs B1.out.size
    rw [← B1.out.cell hbs] at u0 u1 u2
    clear hgl hre hst hl hsl hc hs ht hx hsec KC KB KX
    go_wp2_with (first | (go_at_call 30; with_reducible refine Calls.mono (C100.out _) ?_; rintro e w9 ⟨rfl, rfl⟩) | (go_at_call 30; with_reducible refine Calls.mono (C115.out _) ?_; rintro e w9 ⟨rfl, rfl⟩))
    go_quiet ((first | (go_at_call 20; exact Calls.quiet_of_same (NN.out _))))
    go_wp2_with fail
    go_ret
    exact ⟨retB G.out.symm, quietB (bel2 B1.out _ _) nq⟩
  obtain ⟨kn, rfl, hkn⟩ := isIn_nat rN
  obtain ⟨gn, hgn⟩ : ∃ q, c.globs[kn]? = some q := ⟨c.globs[kn], by simp [hkn]⟩
  obtain ⟨bn, on, cn, en, hbn, y0, y1, y2⟩ := loc_cells hgl.out hgn
  cases en
  have kn2 : (kn : Int) < (c.globs.length : Int) := by omega
  have eg : c.globs.getD (kn : Int).toNat Loc.z = gn := by simp [List.getD, hgn]
  have F3 : Hid (rr = ((gn.kind == sd.kind) && (gn.rc == sd.rc))) := hid (F2.out.trans (by show (isIn (kn : Int) c.globs.length && holdsB b (kd : Int) (c.globs.getD (kn : Int).toNat Loc.z).kind (c.globs.getD (kn : Int).toNat Loc.z).rc) = _; rw [rN, eg, holds_at hsd.out, ibeq sd.kind, ibeq sd.rc]; rfl))
  have NN : Hid (∀ W, Calls Tryd.prog 20 #[.int .i64 (kn : Int), .int .i64 (c.globs.length : Int)] W fun e w' => e = .returned (.bool true) ∧ w' = W) := hid (fun W => by have h := in_any (kn : Int) (c.globs.length : Int) c.globs.length rfl W; rw [rN] at h; exact h)
  clear F2 rN eg
  replace hgn := hid hgn
  obtain ⟨b0, b1, b2⟩ := three0 KB.out
  obtain ⟨f0, f1, f2, f3, f4, f5, f6, f7⟩ := eight KX.out
  obtain ⟨c0, c1, c2, c3, c4⟩ := five0 KC.out
  have lb : _ < w4.heap.size := KB.out.1
  have lx : _ < w4.heap.size := KX.out.1
  have lc : _ < w4.heap.size := KC.out.1
  have lbs : _ < w4.heap.size := Nat.lt_of_lt_of_le hbs B1.out.size
  rw [← B1.out.cell hbs] at u0 u1 u2
  have lbn : _ < w4.heap.size := Nat.lt_of_lt_of_le hbn B1.out.size
  rw [← B1.out.cell hbn] at y0 y1 y2
  clear hgl hre hst hl hsl hc hs ht hx hsec KC KB KX
  cases q1 : (gn.kind == sd.kind)
  · go_wp2_with (first | (go_at_call 30; with_reducible refine Calls.mono (C100.out _) ?_; rintro e w9 ⟨rfl, rfl⟩) | (go_at_call 30; with_reducible refine Calls.mono (C115.out _) ?_; rintro e w9 ⟨rfl, rfl⟩))
    go_quiet ((first | (go_at_call 20; exact Calls.quiet_of_same (NN.out _))))
    go_wp2_with fail
    go_ret
    exact ⟨retB (F3.out.trans (by simp [*])).symm, quietB (bel2 B1.out _ _) nq⟩
  · go_wp2_with (first | (go_at_call 30; with_reducible refine Calls.mono (C100.out _) ?_; rintro e w9 ⟨rfl, rfl⟩) | (go_at_call 30; with_reducible refine Calls.mono (C115.out _) ?_; rintro e w9 ⟨rfl, rfl⟩))
    go_quiet ((first | (go_at_call 20; exact Calls.quiet_of_same (NN.out _))))
    go_wp2_with fail
    go_ret
    exact ⟨retB (F3.out.trans (by simp [*])).symm, quietB (bel2 B1.out _ _) nq⟩

end Go.Proofs.YtdpbapoahfggeaaDoor

/- Contract of the document's instr: kinds 3. -/
namespace Go.Proofs.YtdpbapoahfggeaaDoor
open Go.ChangeShapes Go.WideShapes Go.ChangeAt Go.RowKit
set_option linter.unusedVariables false
set_option linter.unusedSimpArgs false

set_option maxRecDepth 100000 in
set_option maxHeartbeats 4000000 in
theorem rin3 (c : Cd) (i k : Nat) (b : Bd) (dst src rc n tt : Int) (items index : List Itm) (iv xv : Value) (w : World) (hc : c.okW w) (hs : SmallP c) (ht : c.threads[i]? = some b) (hx : b.code[k]? = some ⟨3, dst, src, rc, n, tt, items, iv, index, xv⟩)
    (hl : ∀ (j : Nat) (l : Loc), b.slots[j]? = some l → locOk c.recs.length l = true) :
    Calls Tryd.prog 21 #[.agg #[c.rv, c.gv, c.tv, c.ev, c.cv], .int .i64 i, .int .i64 k] w fun e w' => e = .returned (.bool (insOk c i b k ⟨3, dst, src, rc, n, tt, items, iv, index, xv⟩)) ∧ Below w.heap.size w w' := by
  obtain ⟨a0, p0, a1, p1, bt, ot, p2, a3, p3, a4, p4, a5, p5, bi, oi, p6, a7, p7, a8, p8, e0, e1, e2, e3, e4, rfl, rfl, P⟩ := pre_any hc hs ht hx ⟨#[100, 115, 114, 110]⟩ true true true true false false false (by decide) (by decide) (by decide) (by decide) (by decide) (by decide) (by decide) (by decide) (by first | kernel_rfl | rfl | (simp [ByteArray.toList, ByteArray.toList.loop]; done))
  rw [e0, e1, e2, e3, e4]
  obtain ⟨C100, C115, C114, C110, C116, C105, C120, D100, D115, D114, D105, D120, hq, DI, BB, KC0, KB0, KX0, hsec, hsl, hgl, hre, hst, F, t0, t1, t2, d0, d1, d2, d3, d4, d5, d6, d7, ii, kk, hbt, hbi, q1, q3, q5, qs, qc⟩ := P
  generalize insOk c i b k ⟨3, dst, src, rc, n, tt, items, .slice a7 items.length p7, index, .slice a8 index.length p8⟩ = rr at *
  have HH := hid (fun W => Has3 W)
  clear e0 e1 e2 e3 e4
  replace hl := hid hl
  replace hc := hid hc
  replace hs := hid hs
  replace ht := hid ht
  replace hx := hid hx
  go_enter Tryd.func21, Tryd.ntmps21
  go_upto_region 4 with (go_at_call 29; refine Calls.mono (HH.out _) ?_; rintro e w1 ⟨rfl, hb⟩; have B1 := hid (bover BB.out hb); have KC := hid (KC0.out.kept hb); have KB := hid (KB0.out.kept hb); have KX := hid (KX0.out.kept hb); clear KC0 KB0 KX0 BB hb)
  obtain ⟨cA, hA⟩ : ∃ q, tA ⟨3, dst, src, rc, n, tt, items, .slice a7 items.length p7, index, .slice a8 index.length p8⟩ = q := ⟨_, rfl⟩
  replace hA := hid hA
  refine region4_any hq.out C100.out C115.out C114.out C110.out C116.out C105.out C120.out KX.out hA.out ?_
  intro g
  clear t0 t1 t2 d0 d1 d2 d3 d4 d5 d6 d7 HH hq ii q1 q3 q5 qs
  have h1000 : (b.code.length : Int) ≤ 1000 := by omega
  cases cA
  rotate_left
  · have G : Hid (rr = false) := hid (by rw [F.out]; simp [insF, hA.out])
    clear F DI KC KB KX hA hgl hre hst hl hsl hc hs ht hx hsec C100 C115 C114 C110 C116 C105 C120 D100 D115 D114 D105 D120
    go_wp2_with fail
    go_ret
    exact ⟨retB G.out.symm, B1.out⟩
  obtain ⟨b0, b1, b2⟩ := three0 KB.out
  go_upto_region 7 with fail
  clear b0 b1 b2
  obtain ⟨cB, hB⟩ : ∃ q, tB c b ⟨3, dst, src, rc, n, tt, items, .slice a7 items.length p7, index, .slice a8 index.length p8⟩ = q := ⟨_, rfl⟩
  replace hB := hid hB
  refine region7_any C100.out C115.out C105.out C120.out C114.out D100.out D115.out D114.out (D105.out.mono B1.out) (D120.out.mono B1.out) KX.out KC.out hB.out ?_
  intro w2 hb g2
  replace B1 := hid (bover B1.out hb)
  replace KC := hid (KC.out.kept hb)
  replace KB := hid (KB.out.kept hb)
  replace KX := hid (KX.out.kept hb)
  replace C100 : Hid (∀ W, Calls Tryd.prog 30 #[.string ⟨#[100, 115, 114, 110]⟩, .int .u8 100] W fun e w' => e = .returned (.bool true) ∧ w' = W) := C100
  replace C115 : Hid (∀ W, Calls Tryd.prog 30 #[.string ⟨#[100, 115, 114, 110]⟩, .int .u8 115] W fun e w' => e = .returned (.bool true) ∧ w' = W) := C115
  clear hb C105 C120 C114 D100 D115 D114 D105 D120
  cases cB
  rotate_left
  · have G : Hid (rr = false) := hid (by rw [F.out]; simp [insF, hB.out])
    clear F DI KC KB KX hgl hre hst hA hB hl hsl hc hs ht hx hsec C110 C116 C100 C115
    go_wp2_with fail
    go_ret
    exact ⟨retB G.out.symm, B1.out⟩
  obtain ⟨kd, ekd, hkd⟩ := isIn_nat (tB_d hB.out (by rfl))
  simp only at ekd
  subst ekd
  obtain ⟨sd, hsd⟩ : ∃ sd, b.slots[kd]? = some sd := ⟨b.slots[kd], by simp [hkd]⟩
  obtain ⟨ks, eks, hks⟩ := isIn_nat (tB_s hB.out (by rfl))
  simp only at eks
  subst eks
  obtain ⟨ss, hss⟩ : ∃ ss, b.slots[ks]? = some ss := ⟨b.slots[ks], by simp [hks]⟩
  obtain ⟨bs, os, cs, es, hbs, u0, u1, u2⟩ := loc_cells hsl.out hsd
  cases es
  obtain ⟨bs', os', cs', es, hbs', v0, v1, v2⟩ := loc_cells hsl.out hss
  cases es
  obtain ⟨kr, ekr, hkr⟩ := isIn_nat (tB_r hB.out (by rfl))
  simp only at ekr
  subst ekr
  obtain ⟨rl, hrl⟩ : ∃ q, c.recs[kr]? = some q := ⟨c.recs[kr], by simp [hkr]⟩
  obtain ⟨br, orr, cr, er, hbr, r0, hfl⟩ := rl_cells hre.out hrl
  cases er
  obtain ⟨af, pf, ef⟩ := hfl.form
  rw [ef] at r0 hfl
  have kr2 : (kr : Int) < (c.recs.length : Int) := by omega
  replace hrl := hid hrl
  replace hfl := hid hfl
  clear ef
  have kd2 : (kd : Int) < (b.slots.length : Int) := by omega
  replace hsd := hid hsd
  have ks2 : (ks : Int) < (b.slots.length : Int) := by omega
  replace hss := hid hss
  have hC3 : Hid (tC c i b k ⟨3, (kd : Int), (ks : Int), (kr : Int), n, tt, items, .slice a7 items.length p7, index, .slice a8 index.length p8⟩ = false) := hid rfl
  go_wp2_with fail
  go_quiet ((first | (go_at_call 30; exact Calls.quiet_of_same (C116.out _))))
  replace KC := hid (KC.out.kept (quietB (Below.refl _ _) nq))
  replace KB := hid (KB.out.kept (quietB (Below.refl _ _) nq))
  replace KX := hid (KX.out.kept (quietB (Below.refl _ _) nq))
  replace B1 := hid (quietB B1.out nq)
  generalize w2.drewN nq = w3 at *
  clear C116
  by_cases hin : inside c.secs i k < 0
  · have G : Hid (rr = false) := hid (by rw [F.out]; simp [insF, tD, touchB, hin])
    clear F hA hB hC3 hgl hre hst hl hsl hc hs ht hx hsec C100 C115 C110
    obtain ⟨b0, b1, b2⟩ := three0 KB.out
    obtain ⟨f0, f1, f2, f3, f4, f5, f6, f7⟩ := eight KX.out
    obtain ⟨c0, c1, c2, c3, c4⟩ := five0 KC.out
    have lb : _ < w3.heap.size := KB.out.1
    have lx : _ < w3.heap.size := KX.out.1
    have lc : _ < w3.heap.size := KC.out.1
    go_wp2_with (go_at_call 32; refine Calls.mono (DI.out _ _ B1.out) ?_; rintro e w4 ⟨rfl, hb⟩)
    go_ret
    exact ⟨retB G.out.symm, bover B1.out hb⟩
  have hin2 : (0 : Int) ≤ inside c.secs i k := by omega
  have hD3 : Hid (tD c i k ⟨3, (kd : Int), (ks : Int), (kr : Int), n, tt, items, .slice a7 items.length p7, index, .slice a8 index.length p8⟩ = false) := hid (by simp [tD, hin])
  clear hin
  obtain ⟨b0, b1, b2⟩ := three0 KB.out
  obtain ⟨f0, f1, f2, f3, f4, f5, f6, f7⟩ := eight KX.out
  obtain ⟨c0, c1, c2, c3, c4⟩ := five0 KC.out
  have lb : _ < w3.heap.size := KB.out.1
  have lx : _ < w3.heap.size := KX.out.1
  have lc : _ < w3.heap.size := KC.out.1
  go_upto_region 13 with (go_at_call 32; refine Calls.mono (DI.out _ _ B1.out) ?_; rintro e w4 ⟨rfl, hb⟩; replace B1 := hid (bover B1.out hb); replace KC := hid (KC.out.kept hb); replace KB := hid (KB.out.kept hb); replace KX := hid (KX.out.kept hb); clear hb lb lx lc b0 b1 b2 f0 f1 f2 f3 f4 f5 f6 f7 c0 c1 c2 c3 c4)
  clear DI hin2
  cases z6 : ((k : Int) == (b.code.length : Int) - 1)
  rotate_left
  · have G : Hid (rr = false) := hid (by rw [F.out]; simp [insF, tE, z6])
    clear F hA hB hC3 hD3 hgl hre hst hl hsl hc hs ht hx hsec C100 C115 C110
    obtain ⟨b0, b1, b2⟩ := three0 KB.out
    obtain ⟨f0, f1, f2, f3, f4, f5, f6, f7⟩ := eight KX.out
    obtain ⟨c0, c1, c2, c3, c4⟩ := five0 KC.out
    have lb : _ < w4.heap.size := KB.out.1
    have lx : _ < w4.heap.size := KX.out.1
    have lc : _ < w4.heap.size := KC.out.1
    go_wp2_with fail
    go_ret
    exact ⟨retB G.out.symm, B1.out⟩
  have hE3 : Hid (tE b k ⟨3, (kd : Int), (ks : Int), (kr : Int), n, tt, items, .slice a7 items.length p7, index, .slice a8 index.length p8⟩ = false) := hid (by simp [tE, z6])
  have F2 : Hid (rr = agreesB c i b k ⟨3, (kd : Int), (ks : Int), (kr : Int), n, tt, items, .slice a7 items.length p7, index, .slice a8 index.length p8⟩) := hid (by rw [F.out]; simp [insF, hA.out, hB.out, hC3.out, hD3.out, hE3.out, isOp])
  clear F hA hB hC3 hD3 hE3
  have eg : c.recs.getD (kr : Int).toNat Rl.z = rl := by simp [List.getD, hrl.out]
  have F4 : Hid (rr = (((ss.kind == 4 && ss.rc == (kr : Int)) && isIn n rl.flds.length) && holdsB b (kd : Int) (rl.flds.getD n.toNat Loc.z).kind (rl.flds.getD n.toNat Loc.z).rc)) := hid (F2.out.trans (by show ((holdsB b (ks : Int) 4 (kr : Int) && isIn n (c.recs.getD (kr : Int).toNat Rl.z).flds.length) && holdsB b (kd : Int) ((c.recs.getD (kr : Int).toNat Rl.z).flds.getD n.toNat Loc.z).kind ((c.recs.getD (kr : Int).toNat Rl.z).flds.getD n.toNat Loc.z).rc) = _; rw [eg, holds_at hss.out]))
  clear F2 eg
  cases q1 : (ss.kind != 4)
  rotate_left
  · have F3 : Hid (rr = false) := hid (by rw [F4.out]; have q : (ss.kind == 4) = false := (by rw [ibne] at q1; simpa using q1); rw [q]; rfl)
    clear F4 hfl
    obtain ⟨b0, b1, b2⟩ := three0 KB.out
    obtain ⟨f0, f1, f2, f3, f4, f5, f6, f7⟩ := eight KX.out
    obtain ⟨c0, c1, c2, c3, c4⟩ := five0 KC.out
    have lb : _ < w4.heap.size := KB.out.1
    have lx : _ < w4.heap.size := KX.out.1
    have lc : _ < w4.heap.size := KC.out.1
    have lbs : _ < w4.heap.size := Nat.lt_of_lt_of_le hbs B1.out.size
    rw [← B1.out.cell hbs] at u0 u1 u2
    rw [← B1.out.cell hbs] at v0 v1 v2
    have lbr : _ < w4.heap.size := Nat.lt_of_lt_of_le hbr B1.out.size
    rw [← B1.out.cell hbr] at r0
    clear hgl hre hst hl hsl hc hs ht hx hsec KC KB KX
    go_wp2_with (first | (go_at_call 30; with_reducible refine Calls.mono (C100.out _) ?_; rintro e w9 ⟨rfl, rfl⟩) | (go_at_call 30; with_reducible refine Calls.mono (C115.out _) ?_; rintro e w9 ⟨rfl, rfl⟩))
    go_quiet (fail)
    go_wp2_with fail
    go_ret
    exact ⟨retB F3.out.symm, quietB (bel2 B1.out _ _) nq⟩
  have q1e : (ss.kind == 4) = true := by rw [ibne] at q1; simpa using q1
  replace q1e := hid q1e
  cases q2 : (ss.rc != (kr : Int))
  rotate_left
  · have F3 : Hid (rr = false) := hid (by rw [F4.out]; have q : (ss.rc == (kr : Int)) = false := (by rw [ibne] at q2; simpa using q2); rw [q, q1e.out]; rfl)
    clear F4 hfl q1e
    obtain ⟨b0, b1, b2⟩ := three0 KB.out
    obtain ⟨f0, f1, f2, f3, f4, f5, f6, f7⟩ := eight KX.out
    obtain ⟨c0, c1, c2, c3, c4⟩ := five0 KC.out
    have lb : _ < w4.heap.size := KB.out.1
    have lx : _ < w4.heap.size := KX.out.1
    have lc : _ < w4.heap.size := KC.out.1
    have lbs : _ < w4.heap.size := Nat.lt_of_lt_of_le hbs B1.out.size
    rw [← B1.out.cell hbs] at u0 u1 u2
    rw [← B1.out.cell hbs] at v0 v1 v2
    have lbr : _ < w4.heap.size := Nat.lt_of_lt_of_le hbr B1.out.size
    rw [← B1.out.cell hbr] at r0
    clear hgl hre hst hl hsl hc hs ht hx hsec KC KB KX
    go_wp2_with (first | (go_at_call 30; with_reducible refine Calls.mono (C100.out _) ?_; rintro e w9 ⟨rfl, rfl⟩) | (go_at_call 30; with_reducible refine Calls.mono (C115.out _) ?_; rintro e w9 ⟨rfl, rfl⟩))
    go_quiet (fail)
    go_wp2_with fail
    go_ret
    exact ⟨retB F3.out.symm, quietB (bel2 B1.out _ _) nq⟩
  have q2e : (ss.rc == (kr : Int)) = true := by rw [ibne] at q2; simpa using q2
  replace q2e := hid q2e
  cases rN : isIn n rl.flds.length
  · have F3 : Hid (rr = false) := hid (by rw [F4.out, q1e.out, q2e.out, rN]; rfl)
    have NN : Hid (∀ W, Calls Tryd.prog 20 #[.int .i64 n, .int .i64 (rl.flds.length : Int)] W fun e w' => e = .returned (.bool false) ∧ w' = W) := hid (fun W => by have h := in_any n (rl.flds.length : Int) rl.flds.length rfl W; rw [rN] at h; exact h)
    clear F4 hfl q1e q2e rN
    obtain ⟨b0, b1, b2⟩ := three0 KB.out
    obtain ⟨f0, f1, f2, f3, f4, f5, f6, f7⟩ := eight KX.out
    obtain ⟨c0, c1, c2, c3, c4⟩ := five0 KC.out
    have lb : _ < w4.heap.size := KB.out.1
    have lx : _ < w4.heap.size := KX.out.1
    have lc : _ < w4.heap.size := KC.out.1
    have lbs : _ < w4.heap.size := Nat.lt_of_lt_of_le hbs B1.out.size
    rw [← B1.out.cell hbs] at u0 u1 u2
    rw [← B1.out.cell hbs] at v0 v1 v2
    have lbr : _ < w4.heap.size := Nat.lt_of_lt_of_le hbr B1.out.size
    rw [← B1.out.cell hbr] at r0
    clear hgl hre hst hl hsl hc hs ht hx hsec KC KB KX
    go_wp2_with (first | (go_at_call 30; with_reducible refine Calls.mono (C100.out _) ?_; rintro e w9 ⟨rfl, rfl⟩) | (go_at_call 30; with_reducible refine Calls.mono (C115.out _) ?_; rintro e w9 ⟨rfl, rfl⟩))
    go_quiet ((first | (go_at_call 20; exact Calls.quiet_of_same (NN.out _))))
    go_wp2_with fail
    go_ret
    exact ⟨retB F3.out.symm, quietB (bel2 B1.out _ _) nq⟩
  obtain ⟨kn, rfl, hkn⟩ := isIn_nat rN
  obtain ⟨fn, hfn⟩ : ∃ q, rl.flds[kn]? = some q := ⟨rl.flds[kn], by simp [hkn]⟩
  obtain ⟨bn, on, cn, en, hbn, y0, y1, y2⟩ := loc_cells hfl.out hfn
  cases en
  have kn2 : (kn : Int) < (rl.flds.length : Int) := by omega
  have eg : rl.flds.getD (kn : Int).toNat Loc.z = fn := by simp [List.getD, hfn]
  have F3 : Hid (rr = ((fn.kind == sd.kind) && (fn.rc == sd.rc))) := hid (by rw [F4.out, q1e.out, q2e.out, rN, eg, holds_at hsd.out, ibeq sd.kind, ibeq sd.rc]; rfl)
  clear eg
  have NN : Hid (∀ W, Calls Tryd.prog 20 #[.int .i64 (kn : Int), .int .i64 (rl.flds.length : Int)] W fun e w' => e = .returned (.bool true) ∧ w' = W) := hid (fun W => by have h := in_any (kn : Int) (rl.flds.length : Int) rl.flds.length rfl W; rw [rN] at h; exact h)
  clear F4 rN q1e q2e hfl
  replace hfn := hid hfn
  obtain ⟨b0, b1, b2⟩ := three0 KB.out
  obtain ⟨f0, f1, f2, f3, f4, f5, f6, f7⟩ := eight KX.out
  obtain ⟨c0, c1, c2, c3, c4⟩ := five0 KC.out
  have lb : _ < w4.heap.size := KB.out.1
  have lx : _ < w4.heap.size := KX.out.1
  have lc : _ < w4.heap.size := KC.out.1
  have lbs : _ < w4.heap.size := Nat.lt_of_lt_of_le hbs B1.out.size
  rw [← B1.out.cell hbs] at u0 u1 u2
  rw [← B1.out.cell hbs] at v0 v1 v2
  have lbr : _ < w4.heap.size := Nat.lt_of_lt_of_le hbr B1.out.size
  rw [← B1.out.cell hbr] at r0
  have lbn : _ < w4.heap.size := Nat.lt_of_lt_of_le hbn B1.out.size
  rw [← B1.out.cell hbn] at y0 y1 y2
  clear hgl hre hst hl hsl hc hs ht hx hsec KC KB
  cases q3 : (fn.kind == sd.kind)
  · go_wp2_with (first | (go_at_call 30; with_reducible refine Calls.mono (C100.out _) ?_; rintro e w9 ⟨rfl, rfl⟩) | (go_at_call 30; with_reducible refine Calls.mono (C115.out _) ?_; rintro e w9 ⟨rfl, rfl⟩))
    go_quiet ((first | (go_at_call 20; exact Calls.quiet_of_same (NN.out _))))
    have hbX := hid (quietB (bel2 (Below.refl w4.heap.size w4) (.cells #[.int .i64 sd.kind, .int .i64 sd.rc, .bool sd.once] 60) (.cells #[.int .i64 ss.kind, .int .i64 ss.rc, .bool ss.once] 60)) nq)
    have KD := hid (((BoxAt.new w4 #[.int .i64 sd.kind, .int .i64 sd.rc, .bool sd.once] 60).past (.cells #[.int .i64 ss.kind, .int .i64 ss.rc, .bool ss.once] 60)).kept (quietB (Below.refl _ _) nq))
    go_wp2_with fail
    refine region29_any (Nat.lt_of_lt_of_le lc hbX.out.size) (Nat.lt_of_lt_of_le lx hbX.out.size) (Nat.lt_of_lt_of_le lbr hbX.out.size) (Nat.lt_of_lt_of_le lbn hbX.out.size) kr2 kn2 ((hbX.out.cell lc).trans c0) ((hbX.out.cell lx).trans f3) ((hbX.out.cell lx).trans f4) ((hbX.out.cell lbr).trans r0) ((hbX.out.cell lbn).trans y0) ((hbX.out.cell lbn).trans y1) ((hbX.out.cell lbn).trans y2) ?_
    intro w5 hv hb g5
    have KX5 := hid ((KX.out.kept hbX.out).kept hb)
    have KD5 := hid (KD.out.kept hb)
    obtain ⟨m0, m1, m2⟩ := three0 KD5.out
    obtain ⟨n0, n1, n2⟩ := three0 hv.box
    have hX : (((w4.alloc (.cells #[.int .i64 sd.kind, .int .i64 sd.rc, .bool sd.once] 60)).alloc (.cells #[.int .i64 ss.kind, .int .i64 ss.rc, .bool ss.once] 60)).drewN nq).heap.size = w4.heap.size + 1 + 1 := by show ((w4.alloc _).alloc _).heap.size = _; simp only [World.size_alloc]
    rw [hX] at n0 n1 n2
    clear hX
    have B5 := hid (bover (bover B1.out hbX.out) hb)
    clear hb hv lb lx lc lbr lbn r0 y0 y1 y2 b0 b1 b2 f0 f1 f2 f3 f4 f5 f6 f7 c0 c1 c2 c3 c4
    obtain ⟨f0, f1, f2, f3, f4, f5, f6, f7⟩ := eight KX5.out
    clear KX KX5 hbX B1 KD KD5
    go_wp2_with fail
    go_ret
    exact ⟨retB (F3.out.trans (by simp [*])).symm, B5.out⟩
  · go_wp2_with (first | (go_at_call 30; with_reducible refine Calls.mono (C100.out _) ?_; rintro e w9 ⟨rfl, rfl⟩) | (go_at_call 30; with_reducible refine Calls.mono (C115.out _) ?_; rintro e w9 ⟨rfl, rfl⟩))
    go_quiet ((first | (go_at_call 20; exact Calls.quiet_of_same (NN.out _))))
    have hbX := hid (quietB (bel2 (Below.refl w4.heap.size w4) (.cells #[.int .i64 sd.kind, .int .i64 sd.rc, .bool sd.once] 60) (.cells #[.int .i64 ss.kind, .int .i64 ss.rc, .bool ss.once] 60)) nq)
    have KD := hid (((BoxAt.new w4 #[.int .i64 sd.kind, .int .i64 sd.rc, .bool sd.once] 60).past (.cells #[.int .i64 ss.kind, .int .i64 ss.rc, .bool ss.once] 60)).kept (quietB (Below.refl _ _) nq))
    go_wp2_with fail
    refine region29_any (Nat.lt_of_lt_of_le lc hbX.out.size) (Nat.lt_of_lt_of_le lx hbX.out.size) (Nat.lt_of_lt_of_le lbr hbX.out.size) (Nat.lt_of_lt_of_le lbn hbX.out.size) kr2 kn2 ((hbX.out.cell lc).trans c0) ((hbX.out.cell lx).trans f3) ((hbX.out.cell lx).trans f4) ((hbX.out.cell lbr).trans r0) ((hbX.out.cell lbn).trans y0) ((hbX.out.cell lbn).trans y1) ((hbX.out.cell lbn).trans y2) ?_
    intro w5 hv hb g5
    have KX5 := hid ((KX.out.kept hbX.out).kept hb)
    have KD5 := hid (KD.out.kept hb)
    obtain ⟨m0, m1, m2⟩ := three0 KD5.out
    obtain ⟨n0, n1, n2⟩ := three0 hv.box
    have hX : (((w4.alloc (.cells #[.int .i64 sd.kind, .int .i64 sd.rc, .bool sd.once] 60)).alloc (.cells #[.int .i64 ss.kind, .int .i64 ss.rc, .bool ss.once] 60)).drewN nq).heap.size = w4.heap.size + 1 + 1 := by show ((w4.alloc _).alloc _).heap.size = _; simp only [World.size_alloc]
    rw [hX] at n0 n1 n2
    clear hX
    have B5 := hid (bover (bover B1.out hbX.out) hb)
    clear hb hv lb lx lc lbr lbn r0 y0 y1 y2 b0 b1 b2 f0 f1 f2 f3 f4 f5 f6 f7 c0 c1 c2 c3 c4
    obtain ⟨f0, f1, f2, f3, f4, f5, f6, f7⟩ := eight KX5.out
    clear KX KX5 hbX B1 KD KD5
    go_wp2_with fail
    go_ret
    exact ⟨retB (F3.out.trans (by simp [*])).symm, B5.out⟩

end Go.Proofs.YtdpbapoahfggeaaDoor

/- Contract of the document's instr: kinds 6. -/
namespace Go.Proofs.YtdpbapoahfggeaaDoor
open Go.ChangeShapes Go.WideShapes Go.ChangeAt Go.RowKit
set_option linter.unusedVariables false
set_option linter.unusedSimpArgs false

set_option maxRecDepth 100000 in
set_option maxHeartbeats 4000000 in
theorem rin6 (c : Cd) (i k : Nat) (b : Bd) (dst src rc n tt : Int) (items index : List Itm) (iv xv : Value) (w : World) (hc : c.okW w) (hs : SmallP c) (ht : c.threads[i]? = some b) (hx : b.code[k]? = some ⟨6, dst, src, rc, n, tt, items, iv, index, xv⟩)
    (hl : ∀ (j : Nat) (l : Loc), b.slots[j]? = some l → locOk c.recs.length l = true) :
    Calls Tryd.prog 21 #[.agg #[c.rv, c.gv, c.tv, c.ev, c.cv], .int .i64 i, .int .i64 k] w fun e w' => e = .returned (.bool (insOk c i b k ⟨6, dst, src, rc, n, tt, items, iv, index, xv⟩)) ∧ Below w.heap.size w w' := by
  obtain ⟨a0, p0, a1, p1, bt, ot, p2, a3, p3, a4, p4, a5, p5, bi, oi, p6, a7, p7, a8, p8, e0, e1, e2, e3, e4, rfl, rfl, P⟩ := pre_any hc hs ht hx ⟨#[115, 114, 110, 105]⟩ false true true true false true false (by decide) (by decide) (by decide) (by decide) (by decide) (by decide) (by decide) (by decide) (by first | kernel_rfl | rfl | (simp [ByteArray.toList, ByteArray.toList.loop]; done))
  rw [e0, e1, e2, e3, e4]
  obtain ⟨C100, C115, C114, C110, C116, C105, C120, D100, D115, D114, D105, D120, hq, DI, BB, KC0, KB0, KX0, hsec, hsl, hgl, hre, hst, F, t0, t1, t2, d0, d1, d2, d3, d4, d5, d6, d7, ii, kk, hbt, hbi, q1, q3, q5, qs, qc⟩ := P
  generalize insOk c i b k ⟨6, dst, src, rc, n, tt, items, .slice a7 items.length p7, index, .slice a8 index.length p8⟩ = rr at *
  have HH := hid (fun W => Has6 W)
  clear e0 e1 e2 e3 e4
  replace hl := hid hl
  replace hc := hid hc
  replace hs := hid hs
  replace ht := hid ht
  replace hx := hid hx
  go_enter Tryd.func21, Tryd.ntmps21
  go_upto_region 4 with (go_at_call 29; refine Calls.mono (HH.out _) ?_; rintro e w1 ⟨rfl, hb⟩; have B1 := hid (bover BB.out hb); have KC := hid (KC0.out.kept hb); have KB := hid (KB0.out.kept hb); have KX := hid (KX0.out.kept hb); clear KC0 KB0 KX0 BB hb)
  obtain ⟨cA, hA⟩ : ∃ q, tA ⟨6, dst, src, rc, n, tt, items, .slice a7 items.length p7, index, .slice a8 index.length p8⟩ = q := ⟨_, rfl⟩
  replace hA := hid hA
  refine region4_any hq.out C100.out C115.out C114.out C110.out C116.out C105.out C120.out KX.out hA.out ?_
  intro g
  clear t0 t1 t2 d0 d1 d2 d3 d4 d5 d6 d7 HH hq ii q1 q3 q5 qs
  have h1000 : (b.code.length : Int) ≤ 1000 := by omega
  cases cA
  rotate_left
  · have G : Hid (rr = false) := hid (by rw [F.out]; simp [insF, hA.out])
    clear F DI KC KB KX hA hgl hre hst hl hsl hc hs ht hx hsec C100 C115 C114 C110 C116 C105 C120 D100 D115 D114 D105 D120
    go_wp2_with fail
    go_ret
    exact ⟨retB G.out.symm, B1.out⟩
  obtain ⟨b0, b1, b2⟩ := three0 KB.out
  go_upto_region 7 with fail
  clear b0 b1 b2
  obtain ⟨cB, hB⟩ : ∃ q, tB c b ⟨6, dst, src, rc, n, tt, items, .slice a7 items.length p7, index, .slice a8 index.length p8⟩ = q := ⟨_, rfl⟩
  replace hB := hid hB
  refine region7_any C100.out C115.out C105.out C120.out C114.out D100.out D115.out D114.out (D105.out.mono B1.out) (D120.out.mono B1.out) KX.out KC.out hB.out ?_
  intro w2 hb g2
  replace B1 := hid (bover B1.out hb)
  replace KC := hid (KC.out.kept hb)
  replace KB := hid (KB.out.kept hb)
  replace KX := hid (KX.out.kept hb)
  replace C100 : Hid (∀ W, Calls Tryd.prog 30 #[.string ⟨#[115, 114, 110, 105]⟩, .int .u8 100] W fun e w' => e = .returned (.bool false) ∧ w' = W) := C100
  replace C115 : Hid (∀ W, Calls Tryd.prog 30 #[.string ⟨#[115, 114, 110, 105]⟩, .int .u8 115] W fun e w' => e = .returned (.bool true) ∧ w' = W) := C115
  clear hb C105 C120 C114 D100 D115 D114 D105 D120
  cases cB
  rotate_left
  · have G : Hid (rr = false) := hid (by rw [F.out]; simp [insF, hB.out])
    clear F DI KC KB KX hgl hre hst hA hB hl hsl hc hs ht hx hsec C110 C116 C100 C115
    go_wp2_with fail
    go_ret
    exact ⟨retB G.out.symm, B1.out⟩
  obtain ⟨ks, eks, hks⟩ := isIn_nat (tB_s hB.out (by rfl))
  simp only at eks
  subst eks
  obtain ⟨ss, hss⟩ : ∃ ss, b.slots[ks]? = some ss := ⟨b.slots[ks], by simp [hks]⟩
  obtain ⟨bs, os, cs, es, hbs, v0, v1, v2⟩ := loc_cells hsl.out hss
  cases es
  obtain ⟨kr, ekr, hkr⟩ := isIn_nat (tB_r hB.out (by rfl))
  simp only at ekr
  subst ekr
  obtain ⟨rl, hrl⟩ : ∃ q, c.recs[kr]? = some q := ⟨c.recs[kr], by simp [hkr]⟩
  obtain ⟨br, orr, cr, er, hbr, r0, hfl⟩ := rl_cells hre.out hrl
  cases er
  obtain ⟨af, pf, ef⟩ := hfl.form
  rw [ef] at r0 hfl
  have kr2 : (kr : Int) < (c.recs.length : Int) := by omega
  replace hrl := hid hrl
  replace hfl := hid hfl
  clear ef
  have ks2 : (ks : Int) < (b.slots.length : Int) := by omega
  replace hss := hid hss
  have hC3 : Hid (tC c i b k ⟨6, dst, (ks : Int), (kr : Int), n, tt, items, .slice a7 items.length p7, index, .slice a8 index.length p8⟩ = false) := hid rfl
  go_wp2_with fail
  go_quiet ((first | (go_at_call 30; exact Calls.quiet_of_same (C116.out _))))
  replace KC := hid (KC.out.kept (quietB (Below.refl _ _) nq))
  replace KB := hid (KB.out.kept (quietB (Below.refl _ _) nq))
  replace KX := hid (KX.out.kept (quietB (Below.refl _ _) nq))
  replace B1 := hid (quietB B1.out nq)
  generalize w2.drewN nq = w3 at *
  clear C116
  by_cases hin : inside c.secs i k < 0
  · have G : Hid (rr = false) := hid (by rw [F.out]; simp [insF, tD, touchB, hin])
    clear F hA hB hC3 hgl hre hst hl hsl hc hs ht hx hsec C100 C115 C110
    obtain ⟨b0, b1, b2⟩ := three0 KB.out
    obtain ⟨f0, f1, f2, f3, f4, f5, f6, f7⟩ := eight KX.out
    obtain ⟨c0, c1, c2, c3, c4⟩ := five0 KC.out
    have lb : _ < w3.heap.size := KB.out.1
    have lx : _ < w3.heap.size := KX.out.1
    have lc : _ < w3.heap.size := KC.out.1
    go_wp2_with (go_at_call 32; refine Calls.mono (DI.out _ _ B1.out) ?_; rintro e w4 ⟨rfl, hb⟩)
    go_ret
    exact ⟨retB G.out.symm, bover B1.out hb⟩
  have hin2 : (0 : Int) ≤ inside c.secs i k := by omega
  have hD3 : Hid (tD c i k ⟨6, dst, (ks : Int), (kr : Int), n, tt, items, .slice a7 items.length p7, index, .slice a8 index.length p8⟩ = false) := hid (by simp [tD, hin])
  clear hin
  obtain ⟨b0, b1, b2⟩ := three0 KB.out
  obtain ⟨f0, f1, f2, f3, f4, f5, f6, f7⟩ := eight KX.out
  obtain ⟨c0, c1, c2, c3, c4⟩ := five0 KC.out
  have lb : _ < w3.heap.size := KB.out.1
  have lx : _ < w3.heap.size := KX.out.1
  have lc : _ < w3.heap.size := KC.out.1
  go_upto_region 13 with (go_at_call 32; refine Calls.mono (DI.out _ _ B1.out) ?_; rintro e w4 ⟨rfl, hb⟩; replace B1 := hid (bover B1.out hb); replace KC := hid (KC.out.kept hb); replace KB := hid (KB.out.kept hb); replace KX := hid (KX.out.kept hb); clear hb lb lx lc b0 b1 b2 f0 f1 f2 f3 f4 f5 f6 f7 c0 c1 c2 c3 c4)
  clear DI hin2
  cases z6 : ((k : Int) == (b.code.length : Int) - 1)
  rotate_left
  · have G : Hid (rr = false) := hid (by rw [F.out]; simp [insF, tE, z6])
    clear F hA hB hC3 hD3 hgl hre hst hl hsl hc hs ht hx hsec C100 C115 C110
    obtain ⟨b0, b1, b2⟩ := three0 KB.out
    obtain ⟨f0, f1, f2, f3, f4, f5, f6, f7⟩ := eight KX.out
    obtain ⟨c0, c1, c2, c3, c4⟩ := five0 KC.out
    have lb : _ < w4.heap.size := KB.out.1
    have lx : _ < w4.heap.size := KX.out.1
    have lc : _ < w4.heap.size := KC.out.1
    go_wp2_with fail
    go_ret
    exact ⟨retB G.out.symm, B1.out⟩
  have hE3 : Hid (tE b k ⟨6, dst, (ks : Int), (kr : Int), n, tt, items, .slice a7 items.length p7, index, .slice a8 index.length p8⟩ = false) := hid (by simp [tE, z6])
  have F2 : Hid (rr = agreesB c i b k ⟨6, dst, (ks : Int), (kr : Int), n, tt, items, .slice a7 items.length p7, index, .slice a8 index.length p8⟩) := hid (by rw [F.out]; simp [insF, hA.out, hB.out, hC3.out, hD3.out, hE3.out, isOp])
  clear F hA hB hC3 hD3 hE3
  have eg : c.recs.getD (kr : Int).toNat Rl.z = rl := by simp [List.getD, hrl.out]
  have F4 : Hid (rr = ((ss.kind == 4 && ss.rc == (kr : Int)) && isIn n rl.flds.length)) := hid (F2.out.trans (by show (holdsB b (ks : Int) 4 (kr : Int) && isIn n (c.recs.getD (kr : Int).toNat Rl.z).flds.length) = _; rw [eg, holds_at hss.out]))
  clear F2 eg
  cases q1 : (ss.kind != 4)
  rotate_left
  · have F3 : Hid (rr = false) := hid (by rw [F4.out]; have q : (ss.kind == 4) = false := (by rw [ibne] at q1; simpa using q1); rw [q]; rfl)
    clear F4 hfl
    obtain ⟨b0, b1, b2⟩ := three0 KB.out
    obtain ⟨f0, f1, f2, f3, f4, f5, f6, f7⟩ := eight KX.out
    obtain ⟨c0, c1, c2, c3, c4⟩ := five0 KC.out
    have lb : _ < w4.heap.size := KB.out.1
    have lx : _ < w4.heap.size := KX.out.1
    have lc : _ < w4.heap.size := KC.out.1
    have lbs : _ < w4.heap.size := Nat.lt_of_lt_of_le hbs B1.out.size
    rw [← B1.out.cell hbs] at v0 v1 v2
    have lbr : _ < w4.heap.size := Nat.lt_of_lt_of_le hbr B1.out.size
    rw [← B1.out.cell hbr] at r0
    clear hgl hre hst hl hsl hc hs ht hx hsec KC KB KX
    go_wp2_with (first | (go_at_call 30; with_reducible refine Calls.mono (C100.out _) ?_; rintro e w9 ⟨rfl, rfl⟩) | (go_at_call 30; with_reducible refine Calls.mono (C115.out _) ?_; rintro e w9 ⟨rfl, rfl⟩))
    go_quiet (fail)
    go_wp2_with fail
    go_ret
    exact ⟨retB F3.out.symm, quietB (bel2 B1.out _ _) nq⟩
  have q1e : (ss.kind == 4) = true := by rw [ibne] at q1; simpa using q1
  replace q1e := hid q1e
  cases q2 : (ss.rc != (kr : Int))
  rotate_left
  · have F3 : Hid (rr = false) := hid (by rw [F4.out]; have q : (ss.rc == (kr : Int)) = false := (by rw [ibne] at q2; simpa using q2); rw [q, q1e.out]; rfl)
    clear F4 hfl q1e
    obtain ⟨b0, b1, b2⟩ := three0 KB.out
    obtain ⟨f0, f1, f2, f3, f4, f5, f6, f7⟩ := eight KX.out
    obtain ⟨c0, c1, c2, c3, c4⟩ := five0 KC.out
    have lb : _ < w4.heap.size := KB.out.1
    have lx : _ < w4.heap.size := KX.out.1
    have lc : _ < w4.heap.size := KC.out.1
    have lbs : _ < w4.heap.size := Nat.lt_of_lt_of_le hbs B1.out.size
    rw [← B1.out.cell hbs] at v0 v1 v2
    have lbr : _ < w4.heap.size := Nat.lt_of_lt_of_le hbr B1.out.size
    rw [← B1.out.cell hbr] at r0
    clear hgl hre hst hl hsl hc hs ht hx hsec KC KB KX
    go_wp2_with (first | (go_at_call 30; with_reducible refine Calls.mono (C100.out _) ?_; rintro e w9 ⟨rfl, rfl⟩) | (go_at_call 30; with_reducible refine Calls.mono (C115.out _) ?_; rintro e w9 ⟨rfl, rfl⟩))
    go_quiet (fail)
    go_wp2_with fail
    go_ret
    exact ⟨retB F3.out.symm, quietB (bel2 B1.out _ _) nq⟩
  have q2e : (ss.rc == (kr : Int)) = true := by rw [ibne] at q2; simpa using q2
  replace q2e := hid q2e
  cases rN : isIn n rl.flds.length
  · have F3 : Hid (rr = false) := hid (by rw [F4.out, q1e.out, q2e.out, rN]; rfl)
    have NN : Hid (∀ W, Calls Tryd.prog 20 #[.int .i64 n, .int .i64 (rl.flds.length : Int)] W fun e w' => e = .returned (.bool false) ∧ w' = W) := hid (fun W => by have h := in_any n (rl.flds.length : Int) rl.flds.length rfl W; rw [rN] at h; exact h)
    clear F4 hfl q1e q2e rN
    obtain ⟨b0, b1, b2⟩ := three0 KB.out
    obtain ⟨f0, f1, f2, f3, f4, f5, f6, f7⟩ := eight KX.out
    obtain ⟨c0, c1, c2, c3, c4⟩ := five0 KC.out
    have lb : _ < w4.heap.size := KB.out.1
    have lx : _ < w4.heap.size := KX.out.1
    have lc : _ < w4.heap.size := KC.out.1
    have lbs : _ < w4.heap.size := Nat.lt_of_lt_of_le hbs B1.out.size
    rw [← B1.out.cell hbs] at v0 v1 v2
    have lbr : _ < w4.heap.size := Nat.lt_of_lt_of_le hbr B1.out.size
    rw [← B1.out.cell hbr] at r0
    clear hgl hre hst hl hsl hc hs ht hx hsec KC KB KX
    go_wp2_with (first | (go_at_call 30; with_reducible refine Calls.mono (C100.out _) ?_; rintro e w9 ⟨rfl, rfl⟩) | (go_at_call 30; with_reducible refine Calls.mono (C115.out _) ?_; rintro e w9 ⟨rfl, rfl⟩))
    go_quiet ((first | (go_at_call 20; exact Calls.quiet_of_same (NN.out _))))
    go_wp2_with fail
    go_ret
    exact ⟨retB F3.out.symm, quietB (bel2 B1.out _ _) nq⟩
  obtain ⟨kn, rfl, hkn⟩ := isIn_nat rN
  obtain ⟨fn, hfn⟩ : ∃ q, rl.flds[kn]? = some q := ⟨rl.flds[kn], by simp [hkn]⟩
  obtain ⟨bn, on, cn, en, hbn, y0, y1, y2⟩ := loc_cells hfl.out hfn
  cases en
  have kn2 : (kn : Int) < (rl.flds.length : Int) := by omega
  have F3 : Hid (rr = true) := hid (by rw [F4.out, q1e.out, q2e.out, rN]; rfl)
  have NN : Hid (∀ W, Calls Tryd.prog 20 #[.int .i64 (kn : Int), .int .i64 (rl.flds.length : Int)] W fun e w' => e = .returned (.bool true) ∧ w' = W) := hid (fun W => by have h := in_any (kn : Int) (rl.flds.length : Int) rl.flds.length rfl W; rw [rN] at h; exact h)
  clear F4 rN q1e q2e hfl
  replace hfn := hid hfn
  obtain ⟨b0, b1, b2⟩ := three0 KB.out
  obtain ⟨f0, f1, f2, f3, f4, f5, f6, f7⟩ := eight KX.out
  obtain ⟨c0, c1, c2, c3, c4⟩ := five0 KC.out
  have lb : _ < w4.heap.size := KB.out.1
  have lx : _ < w4.heap.size := KX.out.1
  have lc : _ < w4.heap.size := KC.out.1
  have lbs : _ < w4.heap.size := Nat.lt_of_lt_of_le hbs B1.out.size
  rw [← B1.out.cell hbs] at v0 v1 v2
  have lbr : _ < w4.heap.size := Nat.lt_of_lt_of_le hbr B1.out.size
  rw [← B1.out.cell hbr] at r0
  have lbn : _ < w4.heap.size := Nat.lt_of_lt_of_le hbn B1.out.size
  rw [← B1.out.cell hbn] at y0 y1 y2
  clear hgl hre hst hl hsl hc hs ht hx hsec KC KB
  go_wp2_with (first | (go_at_call 30; with_reducible refine Calls.mono (C100.out _) ?_; rintro e w9 ⟨rfl, rfl⟩) | (go_at_call 30; with_reducible refine Calls.mono (C115.out _) ?_; rintro e w9 ⟨rfl, rfl⟩))
  go_quiet ((first | (go_at_call 20; exact Calls.quiet_of_same (NN.out _))))
  have hbX := hid (quietB (bel2 (Below.refl w4.heap.size w4) (.cells #[.int .i64 0, .int .i64 0, .bool false] 60) (.cells #[.int .i64 ss.kind, .int .i64 ss.rc, .bool ss.once] 60)) nq)
  go_wp2_with fail
  refine region29_any (Nat.lt_of_lt_of_le lc hbX.out.size) (Nat.lt_of_lt_of_le lx hbX.out.size) (Nat.lt_of_lt_of_le lbr hbX.out.size) (Nat.lt_of_lt_of_le lbn hbX.out.size) kr2 kn2 ((hbX.out.cell lc).trans c0) ((hbX.out.cell lx).trans f3) ((hbX.out.cell lx).trans f4) ((hbX.out.cell lbr).trans r0) ((hbX.out.cell lbn).trans y0) ((hbX.out.cell lbn).trans y1) ((hbX.out.cell lbn).trans y2) ?_
  intro w5 hv hb g5
  have KX5 := hid ((KX.out.kept hbX.out).kept hb)
  have B5 := hid (bover (bover B1.out hbX.out) hb)
  clear hb hv lb lx lc lbr lbn r0 y0 y1 y2 b0 b1 b2 f0 f1 f2 f3 f4 f5 f6 f7 c0 c1 c2 c3 c4
  obtain ⟨f0, f1, f2, f3, f4, f5, f6, f7⟩ := eight KX5.out
  clear KX KX5 hbX B1
  go_wp2_with fail
  go_ret
  exact ⟨retB F3.out.symm, B5.out⟩

end Go.Proofs.YtdpbapoahfggeaaDoor
