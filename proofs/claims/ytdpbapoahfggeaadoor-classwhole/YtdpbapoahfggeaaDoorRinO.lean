/- Contract of the document's instr: kinds 8. -/
import Derived.Test.YtdpbapoahfggeaaDoorM12
import Derived.Test.YtdpbapoahfggeaaDoorM03
import Derived.Test.YtdpbapoahfggeaaDoorM02
namespace Go.Proofs.YtdpbapoahfggeaaDoor
open Go.ChangeShapes Go.WideShapes Go.ChangeAt Go.RowKit
set_option linter.unusedVariables false
set_option linter.unusedSimpArgs false

set_option maxRecDepth 100000 in
set_option maxHeartbeats 4000000 in
theorem rin8 (c : Cd) (i k : Nat) (b : Bd) (dst src rc n tt : Int) (items index : List Itm) (iv xv : Value) (w : World) (hc : c.okW w) (hs : SmallP c) (ht : c.threads[i]? = some b) (hx : b.code[k]? = some ⟨8, dst, src, rc, n, tt, items, iv, index, xv⟩)
    (hl : ∀ (j : Nat) (l : Loc), b.slots[j]? = some l → locOk c.recs.length l = true) :
    Calls Tryd.prog 21 #[.agg #[c.rv, c.gv, c.tv, c.ev, c.cv], .int .i64 i, .int .i64 k] w fun e w' => e = .returned (.bool (insOk c i b k ⟨8, dst, src, rc, n, tt, items, iv, index, xv⟩)) ∧ Below w.heap.size w w' := by
  obtain ⟨a0, p0, a1, p1, bt, ot, p2, a3, p3, a4, p4, a5, p5, bi, oi, p6, a7, p7, a8, p8, e0, e1, e2, e3, e4, rfl, rfl, P⟩ := pre_any hc hs ht hx ⟨#[100, 114, 110]⟩ true false true true false false false (by decide) (by decide) (by decide) (by decide) (by decide) (by decide) (by decide) (by decide) (by first | kernel_rfl | rfl | (simp [ByteArray.toList, ByteArray.toList.loop]; done))
  rw [e0, e1, e2, e3, e4]
  obtain ⟨C100, C115, C114, C110, C116, C105, C120, D100, D115, D114, D105, D120, hq, DI, BB, KC0, KB0, KX0, hsec, hsl, hgl, hre, hst, F, t0, t1, t2, d0, d1, d2, d3, d4, d5, d6, d7, ii, kk, hbt, hbi, q1, q3, q5, qs, qc⟩ := P
  generalize insOk c i b k ⟨8, dst, src, rc, n, tt, items, .slice a7 items.length p7, index, .slice a8 index.length p8⟩ = rr at *
  have HH := hid (fun W => Has8 W)
  clear e0 e1 e2 e3 e4
  replace hl := hid hl
  replace hc := hid hc
  replace hs := hid hs
  replace ht := hid ht
  replace hx := hid hx
  go_enter Tryd.func21, Tryd.ntmps21
  go_upto_region 4 with (go_at_call 29; refine Calls.mono (HH.out _) ?_; rintro e w1 ⟨rfl, hb⟩; have B1 := hid (bover BB.out hb); have KC := hid (KC0.out.kept hb); have KB := hid (KB0.out.kept hb); have KX := hid (KX0.out.kept hb); clear KC0 KB0 KX0 BB hb)
  obtain ⟨cA, hA⟩ : ∃ q, tA ⟨8, dst, src, rc, n, tt, items, .slice a7 items.length p7, index, .slice a8 index.length p8⟩ = q := ⟨_, rfl⟩
  replace hA := hid hA
  refine region4_any hq.out C100.out C115.out C114.out C110.out C116.out C105.out C120.out KX.out hA.out ?_
  intro g
  clear t0 t1 t2 d0 d1 d2 d3 d4 d5 d6 d7 HH hq ii q1 q3 q5 qs
  have h1000 : (b.code.length : Int) ≤ 1000 := by omega
  cases cA
  rotate_left
  · have G : Hid (rr = false) := hid (by rw [F.out]; simp [insF, hA.out])
    clear F DI KC KB KX hA hgl hre hst hl hsl hc hs ht hx hsec C100 C115 C114 C110 C116 C105 C120 D100 D115 D114 D105 D120
    go_wp2_with fail
    go_ret
    exact ⟨retB G.out.symm, B1.out⟩
  obtain ⟨b0, b1, b2⟩ := three0 KB.out
  go_upto_region 7 with fail
  clear b0 b1 b2
  obtain ⟨cB, hB⟩ : ∃ q, tB c b ⟨8, dst, src, rc, n, tt, items, .slice a7 items.length p7, index, .slice a8 index.length p8⟩ = q := ⟨_, rfl⟩
  replace hB := hid hB
  refine region7_any C100.out C115.out C105.out C120.out C114.out D100.out D115.out D114.out (D105.out.mono B1.out) (D120.out.mono B1.out) KX.out KC.out hB.out ?_
  intro w2 hb g2
  replace B1 := hid (bover B1.out hb)
  replace KC := hid (KC.out.kept hb)
  replace KB := hid (KB.out.kept hb)
  replace KX := hid (KX.out.kept hb)
  replace C100 : Hid (∀ W, Calls Tryd.prog 30 #[.string ⟨#[100, 114, 110]⟩, .int .u8 100] W fun e w' => e = .returned (.bool true) ∧ w' = W) := C100
  replace C115 : Hid (∀ W, Calls Tryd.prog 30 #[.string ⟨#[100, 114, 110]⟩, .int .u8 115] W fun e w' => e = .returned (.bool false) ∧ w' = W) := C115
  clear hb C105 C120 C114 D100 D115 D114 D105 D120
  cases cB
  rotate_left
  · have G : Hid (rr = false) := hid (by rw [F.out]; simp [insF, hB.out])
    clear F DI KC KB KX hgl hre hst hA hB hl hsl hc hs ht hx hsec C110 C116 C100 C115
    go_wp2_with fail
    go_ret
    exact ⟨retB G.out.symm, B1.out⟩
  obtain ⟨kd, ekd, hkd⟩ := isIn_nat (tB_d hB.out (by rfl))
  simp only at ekd
  subst ekd
  obtain ⟨sd, hsd⟩ : ∃ sd, b.slots[kd]? = some sd := ⟨b.slots[kd], by simp [hkd]⟩
  obtain ⟨bs, os, cs, es, hbs, u0, u1, u2⟩ := loc_cells hsl.out hsd
  cases es
  have kd2 : (kd : Int) < (b.slots.length : Int) := by omega
  replace hsd := hid hsd
  have hC3 : Hid (tC c i b k ⟨8, (kd : Int), src, rc, n, tt, items, .slice a7 items.length p7, index, .slice a8 index.length p8⟩ = false) := hid rfl
  go_wp2_with fail
  go_quiet ((first | (go_at_call 30; exact Calls.quiet_of_same (C116.out _))))
  replace KC := hid (KC.out.kept (quietB (Below.refl _ _) nq))
  replace KB := hid (KB.out.kept (quietB (Below.refl _ _) nq))
  replace KX := hid (KX.out.kept (quietB (Below.refl _ _) nq))
  replace B1 := hid (quietB B1.out nq)
  generalize w2.drewN nq = w3 at *
  clear C116
  by_cases hin : inside c.secs i k < 0
  · have G : Hid (rr = false) := hid (by rw [F.out]; simp [insF, tD, touchB, hin])
    clear F hA hB hC3 hgl hre hst hl hsl hc hs ht hx hsec C100 C115 C110
    obtain ⟨b0, b1, b2⟩ := three0 KB.out
    obtain ⟨f0, f1, f2, f3, f4, f5, f6, f7⟩ := eight KX.out
    obtain ⟨c0, c1, c2, c3, c4⟩ := five0 KC.out
    have lb : _ < w3.heap.size := KB.out.1
    have lx : _ < w3.heap.size := KX.out.1
    have lc : _ < w3.heap.size := KC.out.1
    go_wp2_with (go_at_call 32; refine Calls.mono (DI.out _ _ B1.out) ?_; rintro e w4 ⟨rfl, hb⟩)
    go_ret
    exact ⟨retB G.out.symm, bover B1.out hb⟩
  have hin2 : (0 : Int) ≤ inside c.secs i k := by omega
  have hD3 : Hid (tD c i k ⟨8, (kd : Int), src, rc, n, tt, items, .slice a7 items.length p7, index, .slice a8 index.length p8⟩ = false) := hid (by simp [tD, hin])
  clear hin
  obtain ⟨b0, b1, b2⟩ := three0 KB.out
  obtain ⟨f0, f1, f2, f3, f4, f5, f6, f7⟩ := eight KX.out
  obtain ⟨c0, c1, c2, c3, c4⟩ := five0 KC.out
  have lb : _ < w3.heap.size := KB.out.1
  have lx : _ < w3.heap.size := KX.out.1
  have lc : _ < w3.heap.size := KC.out.1
  go_upto_region 13 with (go_at_call 32; refine Calls.mono (DI.out _ _ B1.out) ?_; rintro e w4 ⟨rfl, hb⟩; replace B1 := hid (bover B1.out hb); replace KC := hid (KC.out.kept hb); replace KB := hid (KB.out.kept hb); replace KX := hid (KX.out.kept hb); clear hb lb lx lc b0 b1 b2 f0 f1 f2 f3 f4 f5 f6 f7 c0 c1 c2 c3 c4)
  clear DI hin2
  cases z6 : ((k : Int) == (b.code.length : Int) - 1)
  rotate_left
  · have G : Hid (rr = false) := hid (by rw [F.out]; simp [insF, tE, z6])
    clear F hA hB hC3 hD3 hgl hre hst hl hsl hc hs ht hx hsec C100 C115 C110
    obtain ⟨b0, b1, b2⟩ := three0 KB.out
    obtain ⟨f0, f1, f2, f3, f4, f5, f6, f7⟩ := eight KX.out
    obtain ⟨c0, c1, c2, c3, c4⟩ := five0 KC.out
    have lb : _ < w4.heap.size := KB.out.1
    have lx : _ < w4.heap.size := KX.out.1
    have lc : _ < w4.heap.size := KC.out.1
    go_wp2_with fail
    go_ret
    exact ⟨retB G.out.symm, B1.out⟩
  have hE3 : Hid (tE b k ⟨8, (kd : Int), src, rc, n, tt, items, .slice a7 items.length p7, index, .slice a8 index.length p8⟩ = false) := hid (by simp [tE, z6])
  have F2 : Hid (rr = agreesB c i b k ⟨8, (kd : Int), src, rc, n, tt, items, .slice a7 items.length p7, index, .slice a8 index.length p8⟩) := hid (by rw [F.out]; simp [insF, hA.out, hB.out, hC3.out, hD3.out, hE3.out, isOp])
  clear F hA hB hC3 hD3 hE3
  have F4 : Hid (rr = ((sd.kind == 4 && sd.rc == rc) && siteB c i k n rc)) := hid (F2.out.trans (by show (holdsB b (kd : Int) 4 rc && siteB c i k n rc) = _; rw [holds_at hsd.out]))
  clear F2
  cases q1 : (sd.kind == 4)
  · have F3 : Hid (rr = false) := hid (by rw [F4.out, q1]; rfl)
    clear F4
    obtain ⟨b0, b1, b2⟩ := three0 KB.out
    obtain ⟨f0, f1, f2, f3, f4, f5, f6, f7⟩ := eight KX.out
    obtain ⟨c0, c1, c2, c3, c4⟩ := five0 KC.out
    have lb : _ < w4.heap.size := KB.out.1
    have lx : _ < w4.heap.size := KX.out.1
    have lc : _ < w4.heap.size := KC.out.1
    have lbs : _ < w4.heap.size := Nat.lt_of_lt_of_le hbs B1.out.size
    rw [← B1.out.cell hbs] at u0 u1 u2
    clear hgl hre hst hl hsl hc hs ht hx hsec KC KB KX
    go_wp2_with (first | (go_at_call 30; with_reducible refine Calls.mono (C100.out _) ?_; rintro e w9 ⟨rfl, rfl⟩) | (go_at_call 30; with_reducible refine Calls.mono (C115.out _) ?_; rintro e w9 ⟨rfl, rfl⟩))
    go_quiet (fail)
    go_wp2_with fail
    go_ret
    exact ⟨retB F3.out.symm, quietB (bel2 B1.out _ _) nq⟩
  cases q2 : (sd.rc == rc)
  · have F3 : Hid (rr = false) := hid (by rw [F4.out, q1, q2]; rfl)
    clear F4
    obtain ⟨b0, b1, b2⟩ := three0 KB.out
    obtain ⟨f0, f1, f2, f3, f4, f5, f6, f7⟩ := eight KX.out
    obtain ⟨c0, c1, c2, c3, c4⟩ := five0 KC.out
    have lb : _ < w4.heap.size := KB.out.1
    have lx : _ < w4.heap.size := KX.out.1
    have lc : _ < w4.heap.size := KC.out.1
    have lbs : _ < w4.heap.size := Nat.lt_of_lt_of_le hbs B1.out.size
    rw [← B1.out.cell hbs] at u0 u1 u2
    clear hgl hre hst hl hsl hc hs ht hx hsec KC KB KX
    go_wp2_with (first | (go_at_call 30; with_reducible refine Calls.mono (C100.out _) ?_; rintro e w9 ⟨rfl, rfl⟩) | (go_at_call 30; with_reducible refine Calls.mono (C115.out _) ?_; rintro e w9 ⟨rfl, rfl⟩))
    go_quiet (fail)
    go_wp2_with fail
    go_ret
    exact ⟨retB F3.out.symm, quietB (bel2 B1.out _ _) nq⟩
  cases rN : isIn n c.sites.length
  · have F3 : Hid (rr = false) := hid (by rw [F4.out, q1, q2]; show (_ && (isIn n c.sites.length && _)) = _; rw [rN]; rfl)
    have NN : Hid (∀ W, Calls Tryd.prog 20 #[.int .i64 n, .int .i64 (c.sites.length : Int)] W fun e w' => e = .returned (.bool false) ∧ w' = W) := hid (fun W => by have h := in_any n (c.sites.length : Int) c.sites.length rfl W; rw [rN] at h; exact h)
    clear F4 rN
    obtain ⟨b0, b1, b2⟩ := three0 KB.out
    obtain ⟨f0, f1, f2, f3, f4, f5, f6, f7⟩ := eight KX.out
    obtain ⟨c0, c1, c2, c3, c4⟩ := five0 KC.out
    have lb : _ < w4.heap.size := KB.out.1
    have lx : _ < w4.heap.size := KX.out.1
    have lc : _ < w4.heap.size := KC.out.1
    have lbs : _ < w4.heap.size := Nat.lt_of_lt_of_le hbs B1.out.size
    rw [← B1.out.cell hbs] at u0 u1 u2
    clear hgl hre hst hl hsl hc hs ht hx hsec KC KB KX
    go_wp2_with (first | (go_at_call 30; with_reducible refine Calls.mono (C100.out _) ?_; rintro e w9 ⟨rfl, rfl⟩) | (go_at_call 30; with_reducible refine Calls.mono (C115.out _) ?_; rintro e w9 ⟨rfl, rfl⟩))
    go_quiet ((first | (go_at_call 20; exact Calls.quiet_of_same (NN.out _))))
    go_wp2_with fail
    go_ret
    exact ⟨retB F3.out.symm, quietB (bel2 B1.out _ _) nq⟩
  obtain ⟨kn, rfl, hkn⟩ := isIn_nat rN
  obtain ⟨st, hsn⟩ : ∃ q, c.sites[kn]? = some q := ⟨c.sites[kn], by simp [hkn]⟩
  obtain ⟨bn, on, cn, en, hbn, y0, y1, y2⟩ := ste_cells hst.out hsn
  cases en
  have kn2 : (kn : Int) < (c.sites.length : Int) := by omega
  have eg : c.sites.getD (kn : Int).toNat Ste.z = st := by simp [List.getD, hsn]
  have F3 : Hid (rr = ((st.th == (i : Int)) && ((st.pl == (k : Int)) && (st.rc == rc)))) := hid (by rw [F4.out, q1, q2]; show (_ && (isIn (kn : Int) c.sites.length && ((c.sites.getD (kn : Int).toNat Ste.z).th == (i : Int) && ((c.sites.getD (kn : Int).toNat Ste.z).pl == (k : Int) && (c.sites.getD (kn : Int).toNat Ste.z).rc == rc)))) = _; rw [rN, eg]; rfl)
  have NN : Hid (∀ W, Calls Tryd.prog 20 #[.int .i64 (kn : Int), .int .i64 (c.sites.length : Int)] W fun e w' => e = .returned (.bool true) ∧ w' = W) := hid (fun W => by have h := in_any (kn : Int) (c.sites.length : Int) c.sites.length rfl W; rw [rN] at h; exact h)
  clear F4 rN eg
  replace hsn := hid hsn
  obtain ⟨b0, b1, b2⟩ := three0 KB.out
  obtain ⟨f0, f1, f2, f3, f4, f5, f6, f7⟩ := eight KX.out
  obtain ⟨c0, c1, c2, c3, c4⟩ := five0 KC.out
  have lb : _ < w4.heap.size := KB.out.1
  have lx : _ < w4.heap.size := KX.out.1
  have lc : _ < w4.heap.size := KC.out.1
  have lbs : _ < w4.heap.size := Nat.lt_of_lt_of_le hbs B1.out.size
  rw [← B1.out.cell hbs] at u0 u1 u2
  have lbn : _ < w4.heap.size := Nat.lt_of_lt_of_le hbn B1.out.size
  rw [← B1.out.cell hbn] at y0 y1 y2
  clear hgl hre hst hl hsl hc hs ht hx hsec KC KB
  go_wp2_with (first | (go_at_call 30; with_reducible refine Calls.mono (C100.out _) ?_; rintro e w9 ⟨rfl, rfl⟩) | (go_at_call 30; with_reducible refine Calls.mono (C115.out _) ?_; rintro e w9 ⟨rfl, rfl⟩))
  have hbX := hid (bel2 (Below.refl w4.heap.size w4) (.cells #[.int .i64 sd.kind, .int .i64 sd.rc, .bool sd.once] 60) (.cells #[.int .i64 0, .int .i64 0, .bool false] 60))
  have hbY := hid hbX.out.drew
  have KD := hid ((BoxAt.new w4 #[.int .i64 sd.kind, .int .i64 sd.rc, .bool sd.once] 60).past (.cells #[.int .i64 0, .int .i64 0, .bool false] 60)).drew
  refine wp_region_held_drew (S := fun (w' : World) => w'.cell? ⟨w.heap.size, 3, none⟩ = some (.slice (some ⟨bn, on, none⟩) c.sites.length p3) ∧ w'.cell? ⟨w.heap.size + 1 + 1, 3, none⟩ = some (.int .i64 rc) ∧ w'.cell? ⟨w.heap.size + 1 + 1, 4, none⟩ = some (.int .i64 (kn : Int)) ∧ w'.cell? ⟨w4.heap.size, 0, none⟩ = some (.int .i64 sd.kind) ∧ w'.cell? ⟨w4.heap.size, 1, none⟩ = some (.int .i64 sd.rc) ∧ w'.cell? ⟨bn, on + kn * 3, none⟩ = some (.int .i64 st.th) ∧ w'.cell? ⟨bn, on + kn * 3 + 1, none⟩ = some (.int .i64 st.pl) ∧ w'.cell? ⟨bn, on + kn * 3 + 2, none⟩ = some (.int .i64 st.rc)) (by kernel_rfl) (⟨(hbY.out.cell lc).trans c3, (hbY.out.cell lx).trans f3, (hbY.out.cell lx).trans f4, KD.out.2 0 _ rfl, KD.out.2 1 _ rfl, (hbY.out.cell lbn).trans y0, (hbY.out.cell lbn).trans y1, (hbY.out.cell lbn).trans y2⟩) (fun hHeld => ?_)
  refine wpAnyH_take (i := 0) (oi := { dst := some 336, op := Go.Op.fieldAddr 60 (Go.Operand.tmp 11) 0, type := 0, pos := "ref.go:152", after := #[], guard := none }) (v := ?_) rfl (by kernel_rfl) (by kernel_rfl) (by kernel_rfl) (fun _ _ _ h => h) (Or.inl ⟨by rfl, ?_⟩) hHeld ?_
  rotate_left
  · intro w0 hSw; (try dsimp only at hSw); go_simp; (try with_reducible rfl)
  try simp only [Act.put, List.setIfInBounds_toArray, List.set_cons_zero, List.set_cons_succ]
  refine wpAnyH_take (i := 1) (oi := { dst := some 337, op := Go.Op.load 3 (Go.Operand.tmp 336), type := 3, pos := "ref.go:152", after := #[{ on := 0, ground := Go.Ground.data }], guard := none }) (v := ?_) rfl (by kernel_rfl) (by kernel_rfl) (by kernel_rfl) (fun _ _ _ h => h) (Or.inl ⟨by rfl, ?_⟩) hHeld ?_
  rotate_left
  · intro w0 hSw; (try dsimp only at hSw); go_simp; (try with_reducible rfl)
  try simp only [Act.put, List.setIfInBounds_toArray, List.set_cons_zero, List.set_cons_succ]
  refine wpAnyH_take (i := 2) (oi := { dst := some 338, op := Go.Op.binOp Go.BinOp.eql 3 (Go.Operand.tmp 337) (Go.Operand.const (Go.Value.int Go.IntKind.i64 4)) 3, type := 4, pos := "ref.go:152", after := #[{ on := 1, ground := Go.Ground.data }], guard := none }) (v := ?_) rfl (by kernel_rfl) (by kernel_rfl) (by kernel_rfl) (fun _ _ _ h => h) (Or.inl ⟨by rfl, ?_⟩) hHeld ?_
  rotate_left
  · intro w0 hSw; (try dsimp only at hSw); go_simp; (try with_reducible rfl)
  try simp only [Act.put, List.setIfInBounds_toArray, List.set_cons_zero, List.set_cons_succ]
  refine wpAnyH_take (i := 3) (oi := { dst := some 339, op := Go.Op.move (Go.Operand.tmp 338), type := 4, pos := "ref.go:152", after := #[{ on := 2, ground := Go.Ground.data }], guard := none }) (v := ?_) rfl (by kernel_rfl) (by kernel_rfl) (by kernel_rfl) (fun _ _ _ h => h) (Or.inl ⟨by rfl, ?_⟩) hHeld ?_
  rotate_left
  · intro w0 hSw; (try dsimp only at hSw); go_simp; (try with_reducible rfl)
  try simp only [Act.put, List.setIfInBounds_toArray, List.set_cons_zero, List.set_cons_succ]
  refine wpAnyH_take (i := 4) (oi := { dst := some 340, op := Go.Op.fieldAddr 60 (Go.Operand.tmp 11) 1, type := 0, pos := "ref.go:152", after := #[{ on := 3, ground := Go.Ground.guard }], guard := some (3, true) }) (v := ?_) rfl (by kernel_rfl) (by kernel_rfl) (by kernel_rfl) (fun _ _ _ h => h) (Or.inl ⟨by rfl, ?_⟩) hHeld ?_
  rotate_left
  · intro w0 hSw; (try dsimp only at hSw); go_simp; (try with_reducible rfl)
  try simp only [Act.put, List.setIfInBounds_toArray, List.set_cons_zero, List.set_cons_succ]
  refine wpAnyH_take (i := 5) (oi := { dst := some 341, op := Go.Op.load 3 (Go.Operand.tmp 340), type := 3, pos := "ref.go:152", after := #[{ on := 4, ground := Go.Ground.data }, { on := 3, ground := Go.Ground.guard }], guard := some (3, true) }) (v := ?_) rfl (by kernel_rfl) (by kernel_rfl) (by kernel_rfl) (fun _ _ _ h => h) (Or.inl ⟨by rfl, ?_⟩) hHeld ?_
  rotate_left
  · intro w0 hSw; (try dsimp only at hSw); go_simp; (try with_reducible rfl)
  try simp only [Act.put, List.setIfInBounds_toArray, List.set_cons_zero, List.set_cons_succ]
  refine wpAnyH_take (i := 6) (oi := { dst := some 342, op := Go.Op.fieldAddr 58 (Go.Operand.tmp 8) 3, type := 0, pos := "ref.go:152", after := #[{ on := 3, ground := Go.Ground.guard }], guard := some (3, true) }) (v := ?_) rfl (by kernel_rfl) (by kernel_rfl) (by kernel_rfl) (fun _ _ _ h => h) (Or.inl ⟨by rfl, ?_⟩) hHeld ?_
  rotate_left
  · intro w0 hSw; (try dsimp only at hSw); go_simp; (try with_reducible rfl)
  try simp only [Act.put, List.setIfInBounds_toArray, List.set_cons_zero, List.set_cons_succ]
  refine wpAnyH_take (i := 7) (oi := { dst := some 343, op := Go.Op.load 3 (Go.Operand.tmp 342), type := 3, pos := "ref.go:152", after := #[{ on := 6, ground := Go.Ground.data }, { on := 3, ground := Go.Ground.guard }], guard := some (3, true) }) (v := ?_) rfl (by kernel_rfl) (by kernel_rfl) (by kernel_rfl) (fun _ _ _ h => h) (Or.inl ⟨by rfl, ?_⟩) hHeld ?_
  rotate_left
  · intro w0 hSw; (try dsimp only at hSw); go_simp; (try with_reducible rfl)
  try simp only [Act.put, List.setIfInBounds_toArray, List.set_cons_zero, List.set_cons_succ]
  refine wpAnyH_take (i := 8) (oi := { dst := some 344, op := Go.Op.binOp Go.BinOp.eql 3 (Go.Operand.tmp 341) (Go.Operand.tmp 343) 3, type := 4, pos := "ref.go:152", after := #[{ on := 5, ground := Go.Ground.data }, { on := 7, ground := Go.Ground.data }, { on := 3, ground := Go.Ground.guard }], guard := some (3, true) }) (v := ?_) rfl (by kernel_rfl) (by kernel_rfl) (by kernel_rfl) (fun _ _ _ h => h) (Or.inl ⟨by rfl, ?_⟩) hHeld ?_
  rotate_left
  · intro w0 hSw; (try dsimp only at hSw); go_simp; (try with_reducible rfl)
  try simp only [Act.put, List.setIfInBounds_toArray, List.set_cons_zero, List.set_cons_succ]
  refine wpAnyH_take (i := 9) (oi := { dst := some 345, op := Go.Op.pick (Go.Operand.tmp 339) (Go.Operand.tmp 344) (Go.Operand.const (Go.Value.bool false)), type := 4, pos := "ref.go:152", after := #[{ on := 3, ground := Go.Ground.data }, { on := 8, ground := Go.Ground.data }], guard := none }) (v := ?_) rfl (by kernel_rfl) (by kernel_rfl) (by kernel_rfl) (fun _ _ _ h => h) (Or.inl ⟨by rfl, ?_⟩) hHeld ?_
  rotate_left
  · intro w0 hSw; (try dsimp only at hSw); go_simp; (try with_reducible rfl)
  try simp only [Act.put, List.setIfInBounds_toArray, List.set_cons_zero, List.set_cons_succ]
  refine wpAnyH_take (i := 10) (oi := { dst := some 346, op := Go.Op.move (Go.Operand.tmp 345), type := 4, pos := "ref.go:152", after := #[{ on := 9, ground := Go.Ground.data }, { on := 3, ground := Go.Ground.chain }], guard := none }) (v := ?_) rfl (by kernel_rfl) (by kernel_rfl) (by kernel_rfl) (fun _ _ _ h => h) (Or.inl ⟨by rfl, ?_⟩) hHeld ?_
  rotate_left
  · intro w0 hSw; (try dsimp only at hSw); go_simp; (try with_reducible rfl)
  try simp only [Act.put, List.setIfInBounds_toArray, List.set_cons_zero, List.set_cons_succ]
  refine wpAnyH_take (i := 11) (oi := { dst := some 347, op := Go.Op.fieldAddr 58 (Go.Operand.tmp 8) 4, type := 0, pos := "ref.go:152", after := #[{ on := 10, ground := Go.Ground.guard }], guard := some (10, true) }) (v := ?_) rfl (by kernel_rfl) (by kernel_rfl) (by kernel_rfl) (fun _ _ _ h => h) (Or.inl ⟨by rfl, ?_⟩) hHeld ?_
  rotate_left
  · intro w0 hSw; (try dsimp only at hSw); go_simp; (try with_reducible rfl)
  try simp only [Act.put, List.setIfInBounds_toArray, List.set_cons_zero, List.set_cons_succ]
  refine wpAnyH_take (i := 12) (oi := { dst := some 348, op := Go.Op.load 3 (Go.Operand.tmp 347), type := 3, pos := "ref.go:152", after := #[{ on := 11, ground := Go.Ground.data }, { on := 10, ground := Go.Ground.guard }], guard := some (10, true) }) (v := ?_) rfl (by kernel_rfl) (by kernel_rfl) (by kernel_rfl) (fun _ _ _ h => h) (Or.inl ⟨by rfl, ?_⟩) hHeld ?_
  rotate_left
  · intro w0 hSw; (try dsimp only at hSw); go_simp; (try with_reducible rfl)
  try simp only [Act.put, List.setIfInBounds_toArray, List.set_cons_zero, List.set_cons_succ]
  refine wpAnyH_take (i := 13) (oi := { dst := some 349, op := Go.Op.fieldAddr 41 (Go.Operand.tmp 3) 3, type := 0, pos := "ref.go:152", after := #[{ on := 10, ground := Go.Ground.guard }], guard := some (10, true) }) (v := ?_) rfl (by kernel_rfl) (by kernel_rfl) (by kernel_rfl) (fun _ _ _ h => h) (Or.inl ⟨by rfl, ?_⟩) hHeld ?_
  rotate_left
  · intro w0 hSw; (try dsimp only at hSw); go_simp; (try with_reducible rfl)
  try simp only [Act.put, List.setIfInBounds_toArray, List.set_cons_zero, List.set_cons_succ]
  refine wpAnyH_take (i := 14) (oi := { dst := some 350, op := Go.Op.load 38 (Go.Operand.tmp 349), type := 38, pos := "ref.go:152", after := #[{ on := 13, ground := Go.Ground.data }, { on := 10, ground := Go.Ground.guard }], guard := some (10, true) }) (v := ?_) rfl (by kernel_rfl) (by kernel_rfl) (by kernel_rfl) (fun _ _ _ h => h) (Or.inl ⟨by rfl, ?_⟩) hHeld ?_
  rotate_left
  · intro w0 hSw; (try dsimp only at hSw); go_simp; (try with_reducible rfl)
  try simp only [Act.put, List.setIfInBounds_toArray, List.set_cons_zero, List.set_cons_succ]
  refine wpAnyH_take (i := 15) (oi := { dst := some 351, op := Go.Op.call { callee := Go.Callee.builtin Go.Builtin.len, args := #[Go.Operand.tmp 350], argTypes := #[38] }, type := 3, pos := "ref.go:152", after := #[{ on := 14, ground := Go.Ground.data }, { on := 10, ground := Go.Ground.guard }], guard := some (10, true) }) (v := ?_) rfl (by kernel_rfl) (by kernel_rfl) (by kernel_rfl) (fun _ _ _ h => h) (Or.inl ⟨by rfl, ?_⟩) hHeld ?_
  rotate_left
  · intro w0 hSw; (try dsimp only at hSw); go_simp; (try with_reducible rfl)
  try simp only [Act.put, List.setIfInBounds_toArray, List.set_cons_zero, List.set_cons_succ]
  refine wpAnyH_ready (rs := [16]) (by kernel_rfl) (by simp) ?_
  refine AllReadyH.cons (o := { dst := some 352, op := Go.Op.call { callee := Go.Callee.value (Go.Operand.func 20), args := #[Go.Operand.tmp 348, Go.Operand.tmp 351], argTypes := #[3, 3] }, type := 4, pos := "ref.go:152", after := #[{ on := 12, ground := Go.Ground.data }, { on := 15, ground := Go.Ground.data }, { on := 10, ground := Go.Ground.chain }, { on := 10, ground := Go.Ground.guard }], guard := some (10, true) }) rfl (fun K' hK' => ?_) AllReadyH.nil
  go_simp
  go_at_call 20
  refine Calls.mono (NN.out _) ?_
  rintro e w9 ⟨rfl, rfl⟩
  refine hK'.out _ _ hHeld (fun hHeld => ?_)
  clear hK' K'
  try simp only [Act.put, List.setIfInBounds_toArray, List.set_cons_zero, List.set_cons_succ]
  refine wpAnyH_take (i := 17) (oi := { dst := some 353, op := Go.Op.pick (Go.Operand.tmp 346) (Go.Operand.tmp 352) (Go.Operand.const (Go.Value.bool false)), type := 4, pos := "ref.go:152", after := #[{ on := 10, ground := Go.Ground.data }, { on := 16, ground := Go.Ground.data }], guard := none }) (v := ?_) rfl (by kernel_rfl) (by kernel_rfl) (by kernel_rfl) (fun _ _ _ h => h) (Or.inl ⟨by rfl, ?_⟩) hHeld ?_
  rotate_left
  · intro w0 hSw; (try dsimp only at hSw); go_simp; (try with_reducible rfl)
  try simp only [Act.put, List.setIfInBounds_toArray, List.set_cons_zero, List.set_cons_succ]
  refine wpAnyH_take (i := 18) (oi := { dst := some 354, op := Go.Op.move (Go.Operand.tmp 353), type := 4, pos := "ref.go:152", after := #[{ on := 17, ground := Go.Ground.data }, { on := 16, ground := Go.Ground.chain }], guard := none }) (v := ?_) rfl (by kernel_rfl) (by kernel_rfl) (by kernel_rfl) (fun _ _ _ h => h) (Or.inl ⟨by rfl, ?_⟩) hHeld ?_
  rotate_left
  · intro w0 hSw; (try dsimp only at hSw); go_simp; (try with_reducible rfl)
  try simp only [Act.put, List.setIfInBounds_toArray, List.set_cons_zero, List.set_cons_succ]
  refine wpAnyH_take (i := 19) (oi := { dst := some 355, op := Go.Op.fieldAddr 41 (Go.Operand.tmp 3) 3, type := 0, pos := "ref.go:152", after := #[{ on := 18, ground := Go.Ground.guard }], guard := some (18, true) }) (v := ?_) rfl (by kernel_rfl) (by kernel_rfl) (by kernel_rfl) (fun _ _ _ h => h) (Or.inl ⟨by rfl, ?_⟩) hHeld ?_
  rotate_left
  · intro w0 hSw; (try dsimp only at hSw); go_simp; (try with_reducible rfl)
  try simp only [Act.put, List.setIfInBounds_toArray, List.set_cons_zero, List.set_cons_succ]
  refine wpAnyH_take (i := 20) (oi := { dst := some 356, op := Go.Op.load 38 (Go.Operand.tmp 355), type := 38, pos := "ref.go:152", after := #[{ on := 19, ground := Go.Ground.data }, { on := 18, ground := Go.Ground.guard }], guard := some (18, true) }) (v := ?_) rfl (by kernel_rfl) (by kernel_rfl) (by kernel_rfl) (fun _ _ _ h => h) (Or.inl ⟨by rfl, ?_⟩) hHeld ?_
  rotate_left
  · intro w0 hSw; (try dsimp only at hSw); go_simp; (try with_reducible rfl)
  try simp only [Act.put, List.setIfInBounds_toArray, List.set_cons_zero, List.set_cons_succ]
  refine wpAnyH_take (i := 21) (oi := { dst := some 357, op := Go.Op.fieldAddr 58 (Go.Operand.tmp 8) 4, type := 0, pos := "ref.go:152", after := #[{ on := 18, ground := Go.Ground.guard }], guard := some (18, true) }) (v := ?_) rfl (by kernel_rfl) (by kernel_rfl) (by kernel_rfl) (fun _ _ _ h => h) (Or.inl ⟨by rfl, ?_⟩) hHeld ?_
  rotate_left
  · intro w0 hSw; (try dsimp only at hSw); go_simp; (try with_reducible rfl)
  try simp only [Act.put, List.setIfInBounds_toArray, List.set_cons_zero, List.set_cons_succ]
  refine wpAnyH_take (i := 22) (oi := { dst := some 358, op := Go.Op.load 3 (Go.Operand.tmp 357), type := 3, pos := "ref.go:152", after := #[{ on := 21, ground := Go.Ground.data }, { on := 18, ground := Go.Ground.guard }], guard := some (18, true) }) (v := ?_) rfl (by kernel_rfl) (by kernel_rfl) (by kernel_rfl) (fun _ _ _ h => h) (Or.inl ⟨by rfl, ?_⟩) hHeld ?_
  rotate_left
  · intro w0 hSw; (try dsimp only at hSw); go_simp; (try with_reducible rfl)
  try simp only [Act.put, List.setIfInBounds_toArray, List.set_cons_zero, List.set_cons_succ]
  refine wpAnyH_take (i := 23) (oi := { dst := some 359, op := Go.Op.indexAddr 38 (Go.Operand.tmp 356) (Go.Operand.tmp 358), type := 0, pos := "ref.go:152", after := #[{ on := 20, ground := Go.Ground.data }, { on := 22, ground := Go.Ground.data }, { on := 18, ground := Go.Ground.guard }], guard := some (18, true) }) (v := ?_) rfl (by kernel_rfl) (by kernel_rfl) (by kernel_rfl) (fun _ _ _ h => h) (Or.inl ⟨by rfl, ?_⟩) hHeld ?_
  rotate_left
  · intro w0 hSw; (try dsimp only at hSw); go_simp; (try with_reducible rfl)
  try simp only [Act.put, List.setIfInBounds_toArray, List.set_cons_zero, List.set_cons_succ]
  refine wpAnyH_take (i := 24) (oi := { dst := some 360, op := Go.Op.load 66 (Go.Operand.tmp 359), type := 66, pos := "ref.go:152", after := #[{ on := 23, ground := Go.Ground.data }, { on := 18, ground := Go.Ground.guard }], guard := some (18, true) }) (v := ?_) rfl (by kernel_rfl) (by kernel_rfl) (by kernel_rfl) (fun _ _ _ h => h) (Or.inl ⟨by rfl, ?_⟩) hHeld ?_
  rotate_left
  · intro w0 hSw; (try dsimp only at hSw); go_simp; (try with_reducible rfl)
  try simp only [Act.put, List.setIfInBounds_toArray, List.set_cons_zero, List.set_cons_succ]
  refine wpAnyH_take (i := 25) (oi := { dst := some 361, op := Go.Op.move (Go.Operand.tmp 1), type := 3, pos := "ref.go:152", after := #[{ on := 18, ground := Go.Ground.guard }], guard := some (18, true) }) (v := ?_) rfl (by kernel_rfl) (by kernel_rfl) (by kernel_rfl) (fun _ _ _ h => h) (Or.inl ⟨by rfl, ?_⟩) hHeld ?_
  rotate_left
  · intro w0 hSw; (try dsimp only at hSw); go_simp; (try with_reducible rfl)
  try simp only [Act.put, List.setIfInBounds_toArray, List.set_cons_zero, List.set_cons_succ]
  refine wpAnyH_take (i := 26) (oi := { dst := some 362, op := Go.Op.move (Go.Operand.tmp 2), type := 3, pos := "ref.go:152", after := #[{ on := 18, ground := Go.Ground.guard }], guard := some (18, true) }) (v := ?_) rfl (by kernel_rfl) (by kernel_rfl) (by kernel_rfl) (fun _ _ _ h => h) (Or.inl ⟨by rfl, ?_⟩) hHeld ?_
  rotate_left
  · intro w0 hSw; (try dsimp only at hSw); go_simp; (try with_reducible rfl)
  try simp only [Act.put, List.setIfInBounds_toArray, List.set_cons_zero, List.set_cons_succ]
  refine wpAnyH_take (i := 27) (oi := { dst := some 363, op := Go.Op.fieldAddr 58 (Go.Operand.tmp 8) 3, type := 0, pos := "ref.go:152", after := #[{ on := 18, ground := Go.Ground.guard }], guard := some (18, true) }) (v := ?_) rfl (by kernel_rfl) (by kernel_rfl) (by kernel_rfl) (fun _ _ _ h => h) (Or.inl ⟨by rfl, ?_⟩) hHeld ?_
  rotate_left
  · intro w0 hSw; (try dsimp only at hSw); go_simp; (try with_reducible rfl)
  try simp only [Act.put, List.setIfInBounds_toArray, List.set_cons_zero, List.set_cons_succ]
  refine wpAnyH_take (i := 28) (oi := { dst := some 364, op := Go.Op.load 3 (Go.Operand.tmp 363), type := 3, pos := "ref.go:152", after := #[{ on := 27, ground := Go.Ground.data }, { on := 18, ground := Go.Ground.guard }], guard := some (18, true) }) (v := ?_) rfl (by kernel_rfl) (by kernel_rfl) (by kernel_rfl) (fun _ _ _ h => h) (Or.inl ⟨by rfl, ?_⟩) hHeld ?_
  rotate_left
  · intro w0 hSw; (try dsimp only at hSw); go_simp; (try with_reducible rfl)
  try simp only [Act.put, List.setIfInBounds_toArray, List.set_cons_zero, List.set_cons_succ]
  refine wpAnyH_take (i := 29) (oi := { dst := some 365, op := Go.Op.build 66 #[(0, Go.Operand.tmp 361), (1, Go.Operand.tmp 362), (2, Go.Operand.tmp 364)], type := 66, pos := "ref.go:152", after := #[{ on := 25, ground := Go.Ground.data }, { on := 26, ground := Go.Ground.data }, { on := 28, ground := Go.Ground.data }, { on := 18, ground := Go.Ground.guard }], guard := some (18, true) }) (v := ?_) rfl (by kernel_rfl) (by kernel_rfl) (by kernel_rfl) (fun _ _ _ h => h) (Or.inl ⟨by rfl, ?_⟩) hHeld ?_
  rotate_left
  · intro w0 hSw; (try dsimp only at hSw); go_simp; (try with_reducible rfl)
  try simp only [Act.put, List.setIfInBounds_toArray, List.set_cons_zero, List.set_cons_succ]
  refine wpAnyH_take (i := 30) (oi := { dst := some 366, op := Go.Op.binOp Go.BinOp.eql 66 (Go.Operand.tmp 360) (Go.Operand.tmp 365) 66, type := 4, pos := "ref.go:152", after := #[{ on := 24, ground := Go.Ground.data }, { on := 29, ground := Go.Ground.data }, { on := 18, ground := Go.Ground.guard }], guard := some (18, true) }) (v := .bool ((st.th == (i : Int)) && ((st.pl == (k : Int)) && (st.rc == rc)))) rfl (by kernel_rfl) (by kernel_rfl) (by kernel_rfl) (fun _ _ _ h => h) (Or.inl ⟨by rfl, ?_⟩) hHeld ?_

  · intro w0 hSw; exact ex_eqSite rfl rfl rfl
  try simp only [Act.put, List.setIfInBounds_toArray, List.set_cons_zero, List.set_cons_succ]
  refine wpAnyH_take (i := 31) (oi := { dst := some 367, op := Go.Op.pick (Go.Operand.tmp 354) (Go.Operand.tmp 366) (Go.Operand.const (Go.Value.bool false)), type := 4, pos := "ref.go:152", after := #[{ on := 18, ground := Go.Ground.data }, { on := 30, ground := Go.Ground.data }], guard := none }) (v := ?_) rfl (by kernel_rfl) (by kernel_rfl) (by kernel_rfl) (fun _ _ _ h => h) (Or.inl ⟨by rfl, ?_⟩) hHeld ?_
  rotate_left
  · intro w0 hSw; (try dsimp only at hSw); go_simp; (try with_reducible rfl)
  try simp only [Act.put, List.setIfInBounds_toArray, List.set_cons_zero, List.set_cons_succ]
  refine wpAnyH_take (i := 32) (oi := { dst := some 6, op := Go.Op.assign (Go.Operand.tmp 367), type := 4, pos := "ref.go:152", after := #[{ on := 31, ground := Go.Ground.data }, { on := 18, ground := Go.Ground.chain }, { on := 0, ground := Go.Ground.phase }, { on := 1, ground := Go.Ground.phase }, { on := 2, ground := Go.Ground.phase }, { on := 3, ground := Go.Ground.phase }, { on := 4, ground := Go.Ground.phase }, { on := 5, ground := Go.Ground.phase }, { on := 6, ground := Go.Ground.phase }, { on := 7, ground := Go.Ground.phase }, { on := 8, ground := Go.Ground.phase }, { on := 9, ground := Go.Ground.phase }, { on := 10, ground := Go.Ground.phase }, { on := 11, ground := Go.Ground.phase }, { on := 12, ground := Go.Ground.phase }, { on := 13, ground := Go.Ground.phase }, { on := 14, ground := Go.Ground.phase }, { on := 15, ground := Go.Ground.phase }, { on := 16, ground := Go.Ground.phase }, { on := 17, ground := Go.Ground.phase }, { on := 18, ground := Go.Ground.phase }, { on := 19, ground := Go.Ground.phase }, { on := 20, ground := Go.Ground.phase }, { on := 21, ground := Go.Ground.phase }, { on := 22, ground := Go.Ground.phase }, { on := 23, ground := Go.Ground.phase }, { on := 24, ground := Go.Ground.phase }, { on := 25, ground := Go.Ground.phase }, { on := 26, ground := Go.Ground.phase }, { on := 27, ground := Go.Ground.phase }, { on := 28, ground := Go.Ground.phase }, { on := 29, ground := Go.Ground.phase }, { on := 30, ground := Go.Ground.phase }, { on := 31, ground := Go.Ground.phase }], guard := none }) (v := ?_) rfl (by kernel_rfl) (by kernel_rfl) (by kernel_rfl) (fun _ _ _ h => h) (Or.inl ⟨by rfl, ?_⟩) hHeld ?_
  rotate_left
  · intro w0 hSw; (try dsimp only at hSw); go_simp; (try with_reducible rfl)
  try simp only [Act.put, List.setIfInBounds_toArray, List.set_cons_zero, List.set_cons_succ]
  refine wpAnyH_done (by kernel_rfl) ?_ _
  clear hHeld
  clear KX KD hbX hbY lb lx lc lbs lbn y0 y1 y2 u0 u1 u2 b0 b1 b2 f0 f1 f2 f3 f4 f5 f6 f7 c0 c1 c2 c3 c4
  go_wp2_with fail
  go_ret
  exact ⟨retB F3.out.symm, (bel2 B1.out _ _).drew⟩

end Go.Proofs.YtdpbapoahfggeaaDoor

/- Contract of the document's instr: kinds 9. -/
namespace Go.Proofs.YtdpbapoahfggeaaDoor
open Go.ChangeShapes Go.WideShapes Go.ChangeAt Go.RowKit
set_option linter.unusedVariables false
set_option linter.unusedSimpArgs false

set_option maxRecDepth 100000 in
set_option maxHeartbeats 4000000 in
theorem rin9 (c : Cd) (i k : Nat) (b : Bd) (dst src rc n tt : Int) (items index : List Itm) (iv xv : Value) (w : World) (hc : c.okW w) (hs : SmallP c) (ht : c.threads[i]? = some b) (hx : b.code[k]? = some ⟨9, dst, src, rc, n, tt, items, iv, index, xv⟩)
    (hl : ∀ (j : Nat) (l : Loc), b.slots[j]? = some l → locOk c.recs.length l = true) :
    Calls Tryd.prog 21 #[.agg #[c.rv, c.gv, c.tv, c.ev, c.cv], .int .i64 i, .int .i64 k] w fun e w' => e = .returned (.bool (insOk c i b k ⟨9, dst, src, rc, n, tt, items, iv, index, xv⟩)) ∧ Below w.heap.size w w' := by
  obtain ⟨a0, p0, a1, p1, bt, ot, p2, a3, p3, a4, p4, a5, p5, bi, oi, p6, a7, p7, a8, p8, e0, e1, e2, e3, e4, rfl, rfl, P⟩ := pre_any hc hs ht hx ⟨#[100, 105, 110]⟩ true false false true false true false (by decide) (by decide) (by decide) (by decide) (by decide) (by decide) (by decide) (by decide) (by first | kernel_rfl | rfl | (simp [ByteArray.toList, ByteArray.toList.loop]; done))
  rw [e0, e1, e2, e3, e4]
  obtain ⟨C100, C115, C114, C110, C116, C105, C120, D100, D115, D114, D105, D120, hq, DI, BB, KC0, KB0, KX0, hsec, hsl, hgl, hre, hst, F, t0, t1, t2, d0, d1, d2, d3, d4, d5, d6, d7, ii, kk, hbt, hbi, q1, q3, q5, qs, qc⟩ := P
  generalize insOk c i b k ⟨9, dst, src, rc, n, tt, items, .slice a7 items.length p7, index, .slice a8 index.length p8⟩ = rr at *
  have HH := hid (fun W => Has9 W)
  clear e0 e1 e2 e3 e4
  replace hl := hid hl
  replace hc := hid hc
  replace hs := hid hs
  replace ht := hid ht
  replace hx := hid hx
  go_enter Tryd.func21, Tryd.ntmps21
  go_upto_region 4 with (go_at_call 29; refine Calls.mono (HH.out _) ?_; rintro e w1 ⟨rfl, hb⟩; have B1 := hid (bover BB.out hb); have KC := hid (KC0.out.kept hb); have KB := hid (KB0.out.kept hb); have KX := hid (KX0.out.kept hb); clear KC0 KB0 KX0 BB hb)
  obtain ⟨cA, hA⟩ : ∃ q, tA ⟨9, dst, src, rc, n, tt, items, .slice a7 items.length p7, index, .slice a8 index.length p8⟩ = q := ⟨_, rfl⟩
  replace hA := hid hA
  refine region4_any hq.out C100.out C115.out C114.out C110.out C116.out C105.out C120.out KX.out hA.out ?_
  intro g
  clear t0 t1 t2 d0 d1 d2 d3 d4 d5 d6 d7 HH hq ii q1 q3 q5 qs
  have h1000 : (b.code.length : Int) ≤ 1000 := by omega
  cases cA
  rotate_left
  · have G : Hid (rr = false) := hid (by rw [F.out]; simp [insF, hA.out])
    clear F DI KC KB KX hA hgl hre hst hl hsl hc hs ht hx hsec C100 C115 C114 C110 C116 C105 C120 D100 D115 D114 D105 D120
    go_wp2_with fail
    go_ret
    exact ⟨retB G.out.symm, B1.out⟩
  obtain ⟨b0, b1, b2⟩ := three0 KB.out
  go_upto_region 7 with fail
  clear b0 b1 b2
  obtain ⟨cB, hB⟩ : ∃ q, tB c b ⟨9, dst, src, rc, n, tt, items, .slice a7 items.length p7, index, .slice a8 index.length p8⟩ = q := ⟨_, rfl⟩
  replace hB := hid hB
  refine region7_any C100.out C115.out C105.out C120.out C114.out D100.out D115.out D114.out (D105.out.mono B1.out) (D120.out.mono B1.out) KX.out KC.out hB.out ?_
  intro w2 hb g2
  replace B1 := hid (bover B1.out hb)
  replace KC := hid (KC.out.kept hb)
  replace KB := hid (KB.out.kept hb)
  replace KX := hid (KX.out.kept hb)
  replace C100 : Hid (∀ W, Calls Tryd.prog 30 #[.string ⟨#[100, 105, 110]⟩, .int .u8 100] W fun e w' => e = .returned (.bool true) ∧ w' = W) := C100
  replace C115 : Hid (∀ W, Calls Tryd.prog 30 #[.string ⟨#[100, 105, 110]⟩, .int .u8 115] W fun e w' => e = .returned (.bool false) ∧ w' = W) := C115
  clear hb C105 C120 C114 D100 D115 D114 D105 D120
  cases cB
  rotate_left
  · have G : Hid (rr = false) := hid (by rw [F.out]; simp [insF, hB.out])
    clear F DI KC KB KX hgl hre hst hA hB hl hsl hc hs ht hx hsec C110 C116 C100 C115
    go_wp2_with fail
    go_ret
    exact ⟨retB G.out.symm, B1.out⟩
  obtain ⟨kd, ekd, hkd⟩ := isIn_nat (tB_d hB.out (by rfl))
  simp only at ekd
  subst ekd
  obtain ⟨sd, hsd⟩ : ∃ sd, b.slots[kd]? = some sd := ⟨b.slots[kd], by simp [hkd]⟩
  obtain ⟨bs, os, cs, es, hbs, u0, u1, u2⟩ := loc_cells hsl.out hsd
  cases es
  have kd2 : (kd : Int) < (b.slots.length : Int) := by omega
  replace hsd := hid hsd
  have hC3 : Hid (tC c i b k ⟨9, (kd : Int), src, rc, n, tt, items, .slice a7 items.length p7, index, .slice a8 index.length p8⟩ = false) := hid rfl
  go_wp2_with fail
  go_quiet ((first | (go_at_call 30; exact Calls.quiet_of_same (C116.out _))))
  replace KC := hid (KC.out.kept (quietB (Below.refl _ _) nq))
  replace KB := hid (KB.out.kept (quietB (Below.refl _ _) nq))
  replace KX := hid (KX.out.kept (quietB (Below.refl _ _) nq))
  replace B1 := hid (quietB B1.out nq)
  generalize w2.drewN nq = w3 at *
  clear C116
  by_cases hin : inside c.secs i k < 0
  · have G : Hid (rr = false) := hid (by rw [F.out]; simp [insF, tD, touchB, hin])
    clear F hA hB hC3 hgl hre hst hl hsl hc hs ht hx hsec C100 C115 C110
    obtain ⟨b0, b1, b2⟩ := three0 KB.out
    obtain ⟨f0, f1, f2, f3, f4, f5, f6, f7⟩ := eight KX.out
    obtain ⟨c0, c1, c2, c3, c4⟩ := five0 KC.out
    have lb : _ < w3.heap.size := KB.out.1
    have lx : _ < w3.heap.size := KX.out.1
    have lc : _ < w3.heap.size := KC.out.1
    go_wp2_with (go_at_call 32; refine Calls.mono (DI.out _ _ B1.out) ?_; rintro e w4 ⟨rfl, hb⟩)
    go_ret
    exact ⟨retB G.out.symm, bover B1.out hb⟩
  have hin2 : (0 : Int) ≤ inside c.secs i k := by omega
  have hD3 : Hid (tD c i k ⟨9, (kd : Int), src, rc, n, tt, items, .slice a7 items.length p7, index, .slice a8 index.length p8⟩ = false) := hid (by simp [tD, hin])
  clear hin
  obtain ⟨b0, b1, b2⟩ := three0 KB.out
  obtain ⟨f0, f1, f2, f3, f4, f5, f6, f7⟩ := eight KX.out
  obtain ⟨c0, c1, c2, c3, c4⟩ := five0 KC.out
  have lb : _ < w3.heap.size := KB.out.1
  have lx : _ < w3.heap.size := KX.out.1
  have lc : _ < w3.heap.size := KC.out.1
  go_upto_region 13 with (go_at_call 32; refine Calls.mono (DI.out _ _ B1.out) ?_; rintro e w4 ⟨rfl, hb⟩; replace B1 := hid (bover B1.out hb); replace KC := hid (KC.out.kept hb); replace KB := hid (KB.out.kept hb); replace KX := hid (KX.out.kept hb); clear hb lb lx lc b0 b1 b2 f0 f1 f2 f3 f4 f5 f6 f7 c0 c1 c2 c3 c4)
  clear DI hin2
  cases z6 : ((k : Int) == (b.code.length : Int) - 1)
  rotate_left
  · have G : Hid (rr = false) := hid (by rw [F.out]; simp [insF, tE, z6])
    clear F hA hB hC3 hD3 hgl hre hst hl hsl hc hs ht hx hsec C100 C115 C110
    obtain ⟨b0, b1, b2⟩ := three0 KB.out
    obtain ⟨f0, f1, f2, f3, f4, f5, f6, f7⟩ := eight KX.out
    obtain ⟨c0, c1, c2, c3, c4⟩ := five0 KC.out
    have lb : _ < w4.heap.size := KB.out.1
    have lx : _ < w4.heap.size := KX.out.1
    have lc : _ < w4.heap.size := KC.out.1
    go_wp2_with fail
    go_ret
    exact ⟨retB G.out.symm, B1.out⟩
  have hE3 : Hid (tE b k ⟨9, (kd : Int), src, rc, n, tt, items, .slice a7 items.length p7, index, .slice a8 index.length p8⟩ = false) := hid (by simp [tE, z6])
  have F2 : Hid (rr = agreesB c i b k ⟨9, (kd : Int), src, rc, n, tt, items, .slice a7 items.length p7, index, .slice a8 index.length p8⟩) := hid (by rw [F.out]; simp [insF, hA.out, hB.out, hC3.out, hD3.out, hE3.out, isOp])
  clear F hA hB hC3 hD3 hE3
  have F4 : Hid (rr = ((sd.kind == 3) && siteB c i k n (-1))) := hid (F2.out.trans (by show (holdsB b (kd : Int) 3 0 && siteB c i k n (-1)) = _; rw [holds_plain (q := 3) (hl.out _ _ hsd.out) hsd.out (Or.inr rfl)]))
  clear F2
  cases q1 : (sd.kind == 3)
  · have F3 : Hid (rr = false) := hid (by rw [F4.out, q1]; rfl)
    clear F4
    obtain ⟨b0, b1, b2⟩ := three0 KB.out
    obtain ⟨f0, f1, f2, f3, f4, f5, f6, f7⟩ := eight KX.out
    obtain ⟨c0, c1, c2, c3, c4⟩ := five0 KC.out
    have lb : _ < w4.heap.size := KB.out.1
    have lx : _ < w4.heap.size := KX.out.1
    have lc : _ < w4.heap.size := KC.out.1
    have lbs : _ < w4.heap.size := Nat.lt_of_lt_of_le hbs B1.out.size
    rw [← B1.out.cell hbs] at u0 u1 u2
    clear hgl hre hst hl hsl hc hs ht hx hsec KC KB KX
    go_wp2_with (first | (go_at_call 30; with_reducible refine Calls.mono (C100.out _) ?_; rintro e w9 ⟨rfl, rfl⟩) | (go_at_call 30; with_reducible refine Calls.mono (C115.out _) ?_; rintro e w9 ⟨rfl, rfl⟩))
    go_ret
    exact ⟨retB F3.out.symm, bel2 B1.out _ _⟩
  cases rN : isIn n c.sites.length
  · have F3 : Hid (rr = false) := hid (by rw [F4.out, q1]; show (_ && (isIn n c.sites.length && _)) = _; rw [rN]; rfl)
    have NN : Hid (∀ W, Calls Tryd.prog 20 #[.int .i64 n, .int .i64 (c.sites.length : Int)] W fun e w' => e = .returned (.bool false) ∧ w' = W) := hid (fun W => by have h := in_any n (c.sites.length : Int) c.sites.length rfl W; rw [rN] at h; exact h)
    clear F4 rN
    obtain ⟨b0, b1, b2⟩ := three0 KB.out
    obtain ⟨f0, f1, f2, f3, f4, f5, f6, f7⟩ := eight KX.out
    obtain ⟨c0, c1, c2, c3, c4⟩ := five0 KC.out
    have lb : _ < w4.heap.size := KB.out.1
    have lx : _ < w4.heap.size := KX.out.1
    have lc : _ < w4.heap.size := KC.out.1
    have lbs : _ < w4.heap.size := Nat.lt_of_lt_of_le hbs B1.out.size
    rw [← B1.out.cell hbs] at u0 u1 u2
    clear hgl hre hst hl hsl hc hs ht hx hsec KC KB KX
    go_wp2_with (first | (go_at_call 30; with_reducible refine Calls.mono (C100.out _) ?_; rintro e w9 ⟨rfl, rfl⟩) | (go_at_call 30; with_reducible refine Calls.mono (C115.out _) ?_; rintro e w9 ⟨rfl, rfl⟩) | (go_at_call 20; with_reducible refine Calls.mono (NN.out _) ?_; rintro e w9 ⟨rfl, rfl⟩))
    go_ret
    exact ⟨retB F3.out.symm, bel2 B1.out _ _⟩
  obtain ⟨kn, rfl, hkn⟩ := isIn_nat rN
  obtain ⟨st, hsn⟩ : ∃ q, c.sites[kn]? = some q := ⟨c.sites[kn], by simp [hkn]⟩
  obtain ⟨bn, on, cn, en, hbn, y0, y1, y2⟩ := ste_cells hst.out hsn
  cases en
  have kn2 : (kn : Int) < (c.sites.length : Int) := by omega
  have eg : c.sites.getD (kn : Int).toNat Ste.z = st := by simp [List.getD, hsn]
  have F3 : Hid (rr = ((st.th == (i : Int)) && ((st.pl == (k : Int)) && (st.rc == (-1))))) := hid (by rw [F4.out, q1]; show (_ && (isIn (kn : Int) c.sites.length && ((c.sites.getD (kn : Int).toNat Ste.z).th == (i : Int) && ((c.sites.getD (kn : Int).toNat Ste.z).pl == (k : Int) && (c.sites.getD (kn : Int).toNat Ste.z).rc == (-1))))) = _; rw [rN, eg]; rfl)
  have NN : Hid (∀ W, Calls Tryd.prog 20 #[.int .i64 (kn : Int), .int .i64 (c.sites.length : Int)] W fun e w' => e = .returned (.bool true) ∧ w' = W) := hid (fun W => by have h := in_any (kn : Int) (c.sites.length : Int) c.sites.length rfl W; rw [rN] at h; exact h)
  clear F4 rN eg
  replace hsn := hid hsn
  obtain ⟨b0, b1, b2⟩ := three0 KB.out
  obtain ⟨f0, f1, f2, f3, f4, f5, f6, f7⟩ := eight KX.out
  obtain ⟨c0, c1, c2, c3, c4⟩ := five0 KC.out
  have lb : _ < w4.heap.size := KB.out.1
  have lx : _ < w4.heap.size := KX.out.1
  have lc : _ < w4.heap.size := KC.out.1
  have lbs : _ < w4.heap.size := Nat.lt_of_lt_of_le hbs B1.out.size
  rw [← B1.out.cell hbs] at u0 u1 u2
  have lbn : _ < w4.heap.size := Nat.lt_of_lt_of_le hbn B1.out.size
  rw [← B1.out.cell hbn] at y0 y1 y2
  clear hgl hre hst hl hsl hc hs ht hx hsec KC KB KX
  go_upto_region 39 with (first | (go_at_call 30; with_reducible refine Calls.mono (C100.out _) ?_; rintro e w9 ⟨rfl, rfl⟩) | (go_at_call 30; with_reducible refine Calls.mono (C115.out _) ?_; rintro e w9 ⟨rfl, rfl⟩))
  cases t1 : (st.th == (i : Int))
  · cases t2 : (st.pl == (k : Int))
    · cases t3 : (st.rc == -1)
      · go_wp2_with (first | (go_at_call 20; with_reducible refine Calls.mono (NN.out _) ?_; rintro e w9 ⟨rfl, rfl⟩))
        go_ret
        exact ⟨retB (F3.out.trans (by simp [*])).symm, bel2 B1.out _ _⟩
      · go_wp2_with (first | (go_at_call 20; with_reducible refine Calls.mono (NN.out _) ?_; rintro e w9 ⟨rfl, rfl⟩))
        go_ret
        exact ⟨retB (F3.out.trans (by simp [*])).symm, bel2 B1.out _ _⟩
    · cases t3 : (st.rc == -1)
      · go_wp2_with (first | (go_at_call 20; with_reducible refine Calls.mono (NN.out _) ?_; rintro e w9 ⟨rfl, rfl⟩))
        go_ret
        exact ⟨retB (F3.out.trans (by simp [*])).symm, bel2 B1.out _ _⟩
      · go_wp2_with (first | (go_at_call 20; with_reducible refine Calls.mono (NN.out _) ?_; rintro e w9 ⟨rfl, rfl⟩))
        go_ret
        exact ⟨retB (F3.out.trans (by simp [*])).symm, bel2 B1.out _ _⟩
  · cases t2 : (st.pl == (k : Int))
    · cases t3 : (st.rc == -1)
      · go_wp2_with (first | (go_at_call 20; with_reducible refine Calls.mono (NN.out _) ?_; rintro e w9 ⟨rfl, rfl⟩))
        go_ret
        exact ⟨retB (F3.out.trans (by simp [*])).symm, bel2 B1.out _ _⟩
      · go_wp2_with (first | (go_at_call 20; with_reducible refine Calls.mono (NN.out _) ?_; rintro e w9 ⟨rfl, rfl⟩))
        go_ret
        exact ⟨retB (F3.out.trans (by simp [*])).symm, bel2 B1.out _ _⟩
    · cases t3 : (st.rc == -1)
      · go_wp2_with (first | (go_at_call 20; with_reducible refine Calls.mono (NN.out _) ?_; rintro e w9 ⟨rfl, rfl⟩))
        go_ret
        exact ⟨retB (F3.out.trans (by simp [*])).symm, bel2 B1.out _ _⟩
      · go_wp2_with (first | (go_at_call 20; with_reducible refine Calls.mono (NN.out _) ?_; rintro e w9 ⟨rfl, rfl⟩))
        go_ret
        exact ⟨retB (F3.out.trans (by simp [*])).symm, bel2 B1.out _ _⟩

end Go.Proofs.YtdpbapoahfggeaaDoor
