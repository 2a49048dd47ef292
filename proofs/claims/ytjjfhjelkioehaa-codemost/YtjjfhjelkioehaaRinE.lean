/- Contract of the document's instr: kinds 10, 11, 12, 17. -/
import Derived.Test.YtjjfhjelkioehaaRinC
import Derived.Test.YtjjfhjelkioehaaSm3
import Derived.Test.YtjjfhjelkioehaaRGood
namespace Go.Proofs.Ytjjfhjelkioehaa
open Go.ChangeShapes Go.WideShapes Go.ChangeAt Go.RowKit
set_option linter.unusedVariables false
set_option linter.unusedSimpArgs false

set_option maxRecDepth 100000 in
set_option maxHeartbeats 4000000 in
theorem rin10 (c : Cd) (i k : Nat) (b : Bd) (dst src rc n tt : Int) (items index : List Itm) (iv xv : Value) (w : World) (hc : c.okW w) (hs : SmallP c) (ht : c.threads[i]? = some b) (hx : b.code[k]? = some ⟨10, dst, src, rc, n, tt, items, iv, index, xv⟩)
    (hl : ∀ (j : Nat) (l : Loc), b.slots[j]? = some l → locOk c.recs.length l = true) :
    Calls Try.prog 21 #[.agg #[c.rv, c.gv, c.tv, c.ev, c.cv], .int .i64 i, .int .i64 k] w fun e w' => e = .returned (.bool (insOk c i b k ⟨10, dst, src, rc, n, tt, items, iv, index, xv⟩)) ∧ Below w.heap.size w w' := by
  obtain ⟨a0, p0, a1, p1, a2, p2, a3, p3, a4, p4, e0, e1, e2, e3, e4⟩ := cd_open hc
  have hit := (List.getElem?_eq_some_iff.1 ht).1
  have hkt := (List.getElem?_eq_some_iff.1 hx).1
  obtain ⟨at', ct, et, hT⟩ := bd_cells hc.2.2.1
  rw [e2] at et; cases et
  obtain ⟨b', bt, ot, a5, p5, a6, p6, hb', rfl, hbt, e5, e6, t0, t1, t2, bok⟩ := hT i hit
  rw [ht] at hb'; cases hb'
  obtain ⟨ac, cc, ec, hC⟩ := ins_cells bok.2.2
  rw [e6] at ec; cases ec
  obtain ⟨x', bi, oi, a7, p7, a8, p8, hx', rfl, hbi, e7, e8, ⟨d0, d1, d2, d3, d4, d5, d6, d7⟩, xok⟩ := hC k hkt
  rw [hx] at hx'; cases hx'
  simp only at e7 e8 d0 d1 d2 d3 d4 d5 d6 d7
  subst e7 e8
  have q1 := hs.l1
  have q3 := hs.l3
  have q5 := hs.l5
  have qs := hs.slots i b ht
  have qc := hs.code i b ht
  have qi := hs.items i b ht k _ hx
  simp only at qi
  obtain ⟨qi1, qi2⟩ := qi
  have ii : (i : Int) < (c.threads.length : Int) := by omega
  have kk : (k : Int) < (b.code.length : Int) := by omega
  have hsec := hc.2.2.2.2
  rw [e4] at hsec
  have Hd : hasC ⟨#[100, 115]⟩ 100 = true := by decide
  have Hs : hasC ⟨#[100, 115]⟩ 115 = true := by decide
  have Hr : hasC ⟨#[100, 115]⟩ 114 = false := by decide
  have Hn : hasC ⟨#[100, 115]⟩ 110 = false := by decide
  have Ht : hasC ⟨#[100, 115]⟩ 116 = false := by decide
  have Hi : hasC ⟨#[100, 115]⟩ 105 = false := by decide
  have Hx : hasC ⟨#[100, 115]⟩ 120 = false := by decide
  have HH := fun W => Has10 W
  have Nd := fun W => in_any dst (b.slots.length : Int) b.slots.length rfl W
  have Ns := fun W => in_any src (b.slots.length : Int) b.slots.length rfl W
  have DI := fun (pl : Int) W (h : Below w.heap.size w W) => rinside_any (.slice a0 c.recs.length p0) (.slice a1 c.globs.length p1) (.slice (some ⟨bt, ot, none⟩) c.threads.length p2) (.slice a3 c.sites.length p3) (.slice a4 c.secs.length p4) c.secs i pl W (Secs.kept hsec h) (by omega)
  clear Nd Ns
  have C100 : HasSays ⟨#[100, 115]⟩ 100 true := fun W => by have h := has_any ⟨#[100, 115]⟩ 100 W (by decide); rw [Hd] at h; exact h
  have C115 : HasSays ⟨#[100, 115]⟩ 115 true := fun W => by have h := has_any ⟨#[100, 115]⟩ 115 W (by decide); rw [Hs] at h; exact h
  have C114 : HasSays ⟨#[100, 115]⟩ 114 false := fun W => by have h := has_any ⟨#[100, 115]⟩ 114 W (by decide); rw [Hr] at h; exact h
  have C110 : HasSays ⟨#[100, 115]⟩ 110 false := fun W => by have h := has_any ⟨#[100, 115]⟩ 110 W (by decide); rw [Hn] at h; exact h
  have C116 : HasSays ⟨#[100, 115]⟩ 116 false := fun W => by have h := has_any ⟨#[100, 115]⟩ 116 W (by decide); rw [Ht] at h; exact h
  have C105 : HasSays ⟨#[100, 115]⟩ 105 false := fun W => by have h := has_any ⟨#[100, 115]⟩ 105 W (by decide); rw [Hi] at h; exact h
  have C120 : HasSays ⟨#[100, 115]⟩ 120 false := fun W => by have h := has_any ⟨#[100, 115]⟩ 120 W (by decide); rw [Hx] at h; exact h
  have hq : ((⟨#[100, 115]⟩ : ByteArray).toList == (⟨#[63]⟩ : ByteArray).toList) = false := by first | kernel_rfl | rfl | (simp [ByteArray.toList, ByteArray.toList.loop]; done)
  have D100 : InSays dst (b.slots.length : Int) (isIn dst b.slots.length) := fun W => in_any dst (b.slots.length : Int) b.slots.length rfl W
  have D115 : InSays src (b.slots.length : Int) (isIn src b.slots.length) := fun W => in_any src (b.slots.length : Int) b.slots.length rfl W
  have D114 : InSays rc (c.recs.length : Int) (isIn rc c.recs.length) := fun W => in_any rc (c.recs.length : Int) c.recs.length rfl W
  have D105 : GoodSays w (.slice a7 items.length p7) (b.slots.length : Int) (goodB (b.slots.length : Int) items) := fun W h => by
    obtain ⟨a, cap, e, hI⟩ := (Items.kept xok.2.1 h).at
    simp only at e
    cases e
    exact rgood_any (b.slots.length : Int) a7 items.length p7 items W rfl hI (by omega) (by omega) (by omega)
  have D120 : GoodSays w (.slice a8 index.length p8) (b.slots.length : Int) (goodB (b.slots.length : Int) index) := fun W h => by
    obtain ⟨a, cap, e, hI⟩ := (Items.kept xok.2.2 h).at
    simp only at e
    cases e
    exact rgood_any (b.slots.length : Int) a8 index.length p8 index W rfl hI (by omega) (by omega) (by omega)
  rw [e0, e1, e2, e3, e4]
  have hsl := bok.2.1
  rw [e5] at hsl
  have hgl := hc.2.1
  rw [e1] at hgl
  have hre := hc.1
  rw [e0] at hre
  have hst := hc.2.2.2.1
  rw [e3] at hst
  have BB := below3 w (.cells #[.slice a0 c.recs.length p0, .slice a1 c.globs.length p1, .slice (some ⟨bt, ot, none⟩) c.threads.length p2, .slice a3 c.sites.length p3, .slice a4 c.secs.length p4] 28) (.cells #[.slice a5 b.slots.length p5, .slice (some ⟨bi, oi, none⟩) b.code.length p6, .int .i64 b.most] 39) (.cells #[.int .i64 10, .int .i64 dst, .int .i64 src, .int .i64 rc, .int .i64 n, .int .i64 tt, .slice a7 items.length p7, .slice a8 index.length p8] 33)
  have KC0 := ((BoxAt.new w #[.slice a0 c.recs.length p0, .slice a1 c.globs.length p1, .slice (some ⟨bt, ot, none⟩) c.threads.length p2, .slice a3 c.sites.length p3, .slice a4 c.secs.length p4] 28).past (.cells #[.slice a5 b.slots.length p5, .slice (some ⟨bi, oi, none⟩) b.code.length p6, .int .i64 b.most] 39)).past (.cells #[.int .i64 10, .int .i64 dst, .int .i64 src, .int .i64 rc, .int .i64 n, .int .i64 tt, .slice a7 items.length p7, .slice a8 index.length p8] 33)
  have KB0 := (BoxAt.new (w.alloc (.cells #[.slice a0 c.recs.length p0, .slice a1 c.globs.length p1, .slice (some ⟨bt, ot, none⟩) c.threads.length p2, .slice a3 c.sites.length p3, .slice a4 c.secs.length p4] 28)) #[.slice a5 b.slots.length p5, .slice (some ⟨bi, oi, none⟩) b.code.length p6, .int .i64 b.most] 39).past (.cells #[.int .i64 10, .int .i64 dst, .int .i64 src, .int .i64 rc, .int .i64 n, .int .i64 tt, .slice a7 items.length p7, .slice a8 index.length p8] 33)
  have KX0 := BoxAt.new ((w.alloc (.cells #[.slice a0 c.recs.length p0, .slice a1 c.globs.length p1, .slice (some ⟨bt, ot, none⟩) c.threads.length p2, .slice a3 c.sites.length p3, .slice a4 c.secs.length p4] 28)).alloc (.cells #[.slice a5 b.slots.length p5, .slice (some ⟨bi, oi, none⟩) b.code.length p6, .int .i64 b.most] 39)) #[.int .i64 10, .int .i64 dst, .int .i64 src, .int .i64 rc, .int .i64 n, .int .i64 tt, .slice a7 items.length p7, .slice a8 index.length p8] 33
  simp only [World.size_alloc] at KB0 KX0
  have F : Hid (insOk c i b k ⟨10, dst, src, rc, n, tt, items, .slice a7 items.length p7, index, .slice a8 index.length p8⟩ = insF c i b k ⟨10, dst, src, rc, n, tt, items, .slice a7 items.length p7, index, .slice a8 index.length p8⟩) := hid (insOk_eq _ _ _ _ _)
  generalize hrr : insOk c i b k ⟨10, dst, src, rc, n, tt, items, .slice a7 items.length p7, index, .slice a8 index.length p8⟩ = rr at *
  clear e0 e1 e2 e3 e4 e5 e6 hT hC hrr
  replace C100 := hid C100
  replace C115 := hid C115
  replace C114 := hid C114
  replace C110 := hid C110
  replace C116 := hid C116
  replace C105 := hid C105
  replace C120 := hid C120
  replace D100 := hid D100
  replace D115 := hid D115
  replace D114 := hid D114
  replace D105 := hid D105
  replace D120 := hid D120
  replace KC0 := hid KC0
  replace KB0 := hid KB0
  replace KX0 := hid KX0
  replace DI := hid DI
  replace HH := hid HH
  replace BB := hid BB
  replace hl := hid hl
  replace hsl := hid hsl
  replace hgl := hid hgl
  replace hre := hid hre
  replace hst := hid hst
  replace hc := hid hc
  replace hs := hid hs
  replace ht := hid ht
  replace hx := hid hx
  replace xok := hid xok
  replace bok := hid bok
  replace hsec := hid hsec
  replace hq := hid hq
  go_enter Try.func21, Try.ntmps21
  go_upto_region 4 with (go_at_call 43; refine Calls.mono (HH.out _) ?_; rintro e w1 ⟨rfl, hb⟩; have B1 := hid (bover BB.out hb); have KC := hid (KC0.out.kept hb); have KB := hid (KB0.out.kept hb); have KX := hid (KX0.out.kept hb); clear KC0 KB0 KX0 BB hb)
  obtain ⟨cA, hA⟩ : ∃ q, tA ⟨10, dst, src, rc, n, tt, items, .slice a7 items.length p7, index, .slice a8 index.length p8⟩ = q := ⟨_, rfl⟩
  replace hA := hid hA
  refine region4_any hq.out C100.out C115.out C114.out C110.out C116.out C105.out C120.out KX.out hA.out ?_
  intro g
  clear t0 t1 t2 d0 d1 d2 d3 d4 d5 d6 d7 Hd Hs Hr Hn Ht Hi Hx HH hq ii q1 q3 q5 qs qi1 qi2
  have h1000 : (b.code.length : Int) ≤ 1000 := by omega
  cases cA
  rotate_left
  · have G : Hid (rr = false) := hid (by rw [F.out]; simp [insF, hA.out])
    clear F DI KC KB KX hA hgl hre hst hl hsl hc hs ht hx xok bok hsec C100 C115 C114 C110 C116 C105 C120 D100 D115 D114 D105 D120
    go_wp2_with fail
    go_ret
    exact ⟨retB G.out.symm, B1.out⟩
  obtain ⟨b0, b1, b2⟩ := three0 KB.out
  go_upto_region 7 with fail
  clear b0 b1 b2
  obtain ⟨cB, hB⟩ : ∃ q, tB c b ⟨10, dst, src, rc, n, tt, items, .slice a7 items.length p7, index, .slice a8 index.length p8⟩ = q := ⟨_, rfl⟩
  replace hB := hid hB
  refine region7_any C100.out C115.out C105.out C120.out C114.out D100.out D115.out D114.out (D105.out.mono B1.out) (D120.out.mono B1.out) KX.out KC.out hB.out ?_
  intro w2 hb g2
  replace B1 := hid (bover B1.out hb)
  replace KC := hid (KC.out.kept hb)
  replace KB := hid (KB.out.kept hb)
  replace KX := hid (KX.out.kept hb)
  replace C100 : Hid (∀ W, Calls Try.prog 44 #[.string ⟨#[100, 115]⟩, .int .u8 100] W fun e w' => e = .returned (.bool true) ∧ w' = W) := C100
  replace C115 : Hid (∀ W, Calls Try.prog 44 #[.string ⟨#[100, 115]⟩, .int .u8 115] W fun e w' => e = .returned (.bool true) ∧ w' = W) := C115
  clear hb C105 C120 C114 D100 D115 D114 D105 D120
  cases cB
  rotate_left
  · have G : Hid (rr = false) := hid (by rw [F.out]; simp [insF, hB.out])
    clear F DI KC KB KX hgl hre hst hA hB hl hsl hc hs ht hx xok bok hsec C110 C116 C100 C115
    go_wp2_with fail
    go_ret
    exact ⟨retB G.out.symm, B1.out⟩
  obtain ⟨kd, ekd, hkd⟩ := isIn_nat (tB_d hB.out (by rfl))
  simp only at ekd
  subst ekd
  obtain ⟨sd, hsd⟩ : ∃ sd, b.slots[kd]? = some sd := ⟨b.slots[kd], by simp [hkd]⟩
  obtain ⟨ks, eks, hks⟩ := isIn_nat (tB_s hB.out (by rfl))
  simp only at eks
  subst eks
  obtain ⟨ss, hss⟩ : ∃ ss, b.slots[ks]? = some ss := ⟨b.slots[ks], by simp [hks]⟩
  obtain ⟨bs, os, cs, es, hbs, u0, u1, u2⟩ := loc_cells hsl.out hsd
  cases es
  obtain ⟨bs', os', cs', es, hbs', v0, v1, v2⟩ := loc_cells hsl.out hss
  cases es
  have kd2 : (kd : Int) < (b.slots.length : Int) := by omega
  replace hsd := hid hsd
  have ks2 : (ks : Int) < (b.slots.length : Int) := by omega
  replace hss := hid hss
  have hC3 : Hid (tC c i b k ⟨10, (kd : Int), (ks : Int), rc, n, tt, items, .slice a7 items.length p7, index, .slice a8 index.length p8⟩ = false) := hid rfl
  go_wp2_with fail
  go_quiet ((first | (go_at_call 44; exact Calls.quiet_of_same (C116.out _))))
  replace KC := hid (KC.out.kept (quietB (Below.refl _ _) nq))
  replace KB := hid (KB.out.kept (quietB (Below.refl _ _) nq))
  replace KX := hid (KX.out.kept (quietB (Below.refl _ _) nq))
  replace B1 := hid (quietB B1.out nq)
  generalize w2.drewN nq = w3 at *
  clear C116
  have hD3 : Hid (tD c i k ⟨10, (kd : Int), (ks : Int), rc, n, tt, items, .slice a7 items.length p7, index, .slice a8 index.length p8⟩ = false) := hid rfl
  obtain ⟨b0, b1, b2⟩ := three0 KB.out
  obtain ⟨f0, f1, f2, f3, f4, f5, f6, f7⟩ := eight KX.out
  obtain ⟨c0, c1, c2, c3, c4⟩ := five0 KC.out
  have lb : _ < w3.heap.size := KB.out.1
  have lx : _ < w3.heap.size := KX.out.1
  have lc : _ < w3.heap.size := KC.out.1
  go_upto_region 13 with fail
  clear lb lx lc b0 b1 b2 f0 f1 f2 f3 f4 f5 f6 f7 c0 c1 c2 c3 c4
  cases z6 : ((k : Int) == (b.code.length : Int) - 1)
  rotate_left
  · have G : Hid (rr = false) := hid (by rw [F.out]; simp [insF, tE, z6])
    clear F hA hB hC3 hD3 hgl hre hst hl hsl hc hs ht hx xok bok hsec C100 C115 C110
    obtain ⟨b0, b1, b2⟩ := three0 KB.out
    obtain ⟨f0, f1, f2, f3, f4, f5, f6, f7⟩ := eight KX.out
    obtain ⟨c0, c1, c2, c3, c4⟩ := five0 KC.out
    have lb : _ < w3.heap.size := KB.out.1
    have lx : _ < w3.heap.size := KX.out.1
    have lc : _ < w3.heap.size := KC.out.1
    go_wp2_with fail
    go_ret
    exact ⟨retB G.out.symm, B1.out⟩
  have hE3 : Hid (tE b k ⟨10, (kd : Int), (ks : Int), rc, n, tt, items, .slice a7 items.length p7, index, .slice a8 index.length p8⟩ = false) := hid (by simp [tE, z6])
  have F2 : Hid (rr = agreesB c i b k ⟨10, (kd : Int), (ks : Int), rc, n, tt, items, .slice a7 items.length p7, index, .slice a8 index.length p8⟩) := hid (by rw [F.out]; simp [insF, hA.out, hB.out, hC3.out, hD3.out, hE3.out, isOp])
  clear F hA hB hC3 hD3 hE3
  have E1 := hid (holds_plain (q := 1) (hl.out _ _ hsd.out) hsd.out (Or.inl rfl))
  have E3 := hid (holds_plain (q := 3) (hl.out _ _ hss.out) hss.out (Or.inr rfl))
  obtain ⟨b0, b1, b2⟩ := three0 KB.out
  obtain ⟨f0, f1, f2, f3, f4, f5, f6, f7⟩ := eight KX.out
  obtain ⟨c0, c1, c2, c3, c4⟩ := five0 KC.out
  have lb : _ < w3.heap.size := KB.out.1
  have lx : _ < w3.heap.size := KX.out.1
  have lc : _ < w3.heap.size := KC.out.1
  have lbs : _ < w3.heap.size := Nat.lt_of_lt_of_le hbs B1.out.size
  rw [← B1.out.cell hbs] at u0 u1 u2
  rw [← B1.out.cell hbs] at v0 v1 v2
  clear hgl hre hst hl hsl hc hs ht hx xok bok hsec KC KB KX
  have F3 : Hid (rr = ((sd.kind == 1) && (ss.kind == 3))) := hid (F2.out.trans (show (holdsB b _ 1 0 && holdsB b _ 3 0) = _ by rw [E1.out, E3.out]))
  clear F2 E1 E3 hsd hss
  cases q1 : (sd.kind == 1)
  · go_wp2_with (first | (go_at_call 44; with_reducible refine Calls.mono (C100.out _) ?_; rintro e w9 ⟨rfl, rfl⟩) | (go_at_call 44; with_reducible refine Calls.mono (C115.out _) ?_; rintro e w9 ⟨rfl, rfl⟩))
    go_ret
    exact ⟨retB (F3.out.trans (by simp [*])).symm, bel2 B1.out _ _⟩
  · cases q2 : (ss.kind == 3)
    · go_wp2_with (first | (go_at_call 44; with_reducible refine Calls.mono (C100.out _) ?_; rintro e w9 ⟨rfl, rfl⟩) | (go_at_call 44; with_reducible refine Calls.mono (C115.out _) ?_; rintro e w9 ⟨rfl, rfl⟩))
      go_ret
      exact ⟨retB (F3.out.trans (by simp [*])).symm, bel2 B1.out _ _⟩
    · go_wp2_with (first | (go_at_call 44; with_reducible refine Calls.mono (C100.out _) ?_; rintro e w9 ⟨rfl, rfl⟩) | (go_at_call 44; with_reducible refine Calls.mono (C115.out _) ?_; rintro e w9 ⟨rfl, rfl⟩))
      go_ret
      exact ⟨retB (F3.out.trans (by simp [*])).symm, bel2 B1.out _ _⟩

set_option maxRecDepth 100000 in
set_option maxHeartbeats 4000000 in
theorem rin11 (c : Cd) (i k : Nat) (b : Bd) (dst src rc n tt : Int) (items index : List Itm) (iv xv : Value) (w : World) (hc : c.okW w) (hs : SmallP c) (ht : c.threads[i]? = some b) (hx : b.code[k]? = some ⟨11, dst, src, rc, n, tt, items, iv, index, xv⟩)
    (hl : ∀ (j : Nat) (l : Loc), b.slots[j]? = some l → locOk c.recs.length l = true) :
    Calls Try.prog 21 #[.agg #[c.rv, c.gv, c.tv, c.ev, c.cv], .int .i64 i, .int .i64 k] w fun e w' => e = .returned (.bool (insOk c i b k ⟨11, dst, src, rc, n, tt, items, iv, index, xv⟩)) ∧ Below w.heap.size w w' := by
  obtain ⟨a0, p0, a1, p1, a2, p2, a3, p3, a4, p4, e0, e1, e2, e3, e4⟩ := cd_open hc
  have hit := (List.getElem?_eq_some_iff.1 ht).1
  have hkt := (List.getElem?_eq_some_iff.1 hx).1
  obtain ⟨at', ct, et, hT⟩ := bd_cells hc.2.2.1
  rw [e2] at et; cases et
  obtain ⟨b', bt, ot, a5, p5, a6, p6, hb', rfl, hbt, e5, e6, t0, t1, t2, bok⟩ := hT i hit
  rw [ht] at hb'; cases hb'
  obtain ⟨ac, cc, ec, hC⟩ := ins_cells bok.2.2
  rw [e6] at ec; cases ec
  obtain ⟨x', bi, oi, a7, p7, a8, p8, hx', rfl, hbi, e7, e8, ⟨d0, d1, d2, d3, d4, d5, d6, d7⟩, xok⟩ := hC k hkt
  rw [hx] at hx'; cases hx'
  simp only at e7 e8 d0 d1 d2 d3 d4 d5 d6 d7
  subst e7 e8
  have q1 := hs.l1
  have q3 := hs.l3
  have q5 := hs.l5
  have qs := hs.slots i b ht
  have qc := hs.code i b ht
  have qi := hs.items i b ht k _ hx
  simp only at qi
  obtain ⟨qi1, qi2⟩ := qi
  have ii : (i : Int) < (c.threads.length : Int) := by omega
  have kk : (k : Int) < (b.code.length : Int) := by omega
  have hsec := hc.2.2.2.2
  rw [e4] at hsec
  have Hd : hasC ⟨#[105]⟩ 100 = false := by decide
  have Hs : hasC ⟨#[105]⟩ 115 = false := by decide
  have Hr : hasC ⟨#[105]⟩ 114 = false := by decide
  have Hn : hasC ⟨#[105]⟩ 110 = false := by decide
  have Ht : hasC ⟨#[105]⟩ 116 = false := by decide
  have Hi : hasC ⟨#[105]⟩ 105 = true := by decide
  have Hx : hasC ⟨#[105]⟩ 120 = false := by decide
  have HH := fun W => Has11 W
  have Ni : ∀ W, Below w.heap.size w W → Calls Try.prog 45 #[.slice a7 items.length p7, .int .i64 (b.slots.length : Int)] W fun e w' => e = .returned (.bool (goodB (b.slots.length : Int) items)) ∧ Below W.heap.size W w' := fun W h => by
    obtain ⟨a, cap, e, hI⟩ := (Items.kept xok.2.1 h).at
    simp only at e
    cases e
    exact rgood_any (b.slots.length : Int) a7 items.length p7 items W rfl hI (by omega) (by omega) (by omega)
  have DI := fun (pl : Int) W (h : Below w.heap.size w W) => rinside_any (.slice a0 c.recs.length p0) (.slice a1 c.globs.length p1) (.slice (some ⟨bt, ot, none⟩) c.threads.length p2) (.slice a3 c.sites.length p3) (.slice a4 c.secs.length p4) c.secs i pl W (Secs.kept hsec h) (by omega)
  clear Ni
  have C100 : HasSays ⟨#[105]⟩ 100 false := fun W => by have h := has_any ⟨#[105]⟩ 100 W (by decide); rw [Hd] at h; exact h
  have C115 : HasSays ⟨#[105]⟩ 115 false := fun W => by have h := has_any ⟨#[105]⟩ 115 W (by decide); rw [Hs] at h; exact h
  have C114 : HasSays ⟨#[105]⟩ 114 false := fun W => by have h := has_any ⟨#[105]⟩ 114 W (by decide); rw [Hr] at h; exact h
  have C110 : HasSays ⟨#[105]⟩ 110 false := fun W => by have h := has_any ⟨#[105]⟩ 110 W (by decide); rw [Hn] at h; exact h
  have C116 : HasSays ⟨#[105]⟩ 116 false := fun W => by have h := has_any ⟨#[105]⟩ 116 W (by decide); rw [Ht] at h; exact h
  have C105 : HasSays ⟨#[105]⟩ 105 true := fun W => by have h := has_any ⟨#[105]⟩ 105 W (by decide); rw [Hi] at h; exact h
  have C120 : HasSays ⟨#[105]⟩ 120 false := fun W => by have h := has_any ⟨#[105]⟩ 120 W (by decide); rw [Hx] at h; exact h
  have hq : ((⟨#[105]⟩ : ByteArray).toList == (⟨#[63]⟩ : ByteArray).toList) = false := by first | kernel_rfl | rfl | (simp [ByteArray.toList, ByteArray.toList.loop]; done)
  have D100 : InSays dst (b.slots.length : Int) (isIn dst b.slots.length) := fun W => in_any dst (b.slots.length : Int) b.slots.length rfl W
  have D115 : InSays src (b.slots.length : Int) (isIn src b.slots.length) := fun W => in_any src (b.slots.length : Int) b.slots.length rfl W
  have D114 : InSays rc (c.recs.length : Int) (isIn rc c.recs.length) := fun W => in_any rc (c.recs.length : Int) c.recs.length rfl W
  have D105 : GoodSays w (.slice a7 items.length p7) (b.slots.length : Int) (goodB (b.slots.length : Int) items) := fun W h => by
    obtain ⟨a, cap, e, hI⟩ := (Items.kept xok.2.1 h).at
    simp only at e
    cases e
    exact rgood_any (b.slots.length : Int) a7 items.length p7 items W rfl hI (by omega) (by omega) (by omega)
  have D120 : GoodSays w (.slice a8 index.length p8) (b.slots.length : Int) (goodB (b.slots.length : Int) index) := fun W h => by
    obtain ⟨a, cap, e, hI⟩ := (Items.kept xok.2.2 h).at
    simp only at e
    cases e
    exact rgood_any (b.slots.length : Int) a8 index.length p8 index W rfl hI (by omega) (by omega) (by omega)
  rw [e0, e1, e2, e3, e4]
  have hsl := bok.2.1
  rw [e5] at hsl
  have hgl := hc.2.1
  rw [e1] at hgl
  have hre := hc.1
  rw [e0] at hre
  have hst := hc.2.2.2.1
  rw [e3] at hst
  have BB := below3 w (.cells #[.slice a0 c.recs.length p0, .slice a1 c.globs.length p1, .slice (some ⟨bt, ot, none⟩) c.threads.length p2, .slice a3 c.sites.length p3, .slice a4 c.secs.length p4] 28) (.cells #[.slice a5 b.slots.length p5, .slice (some ⟨bi, oi, none⟩) b.code.length p6, .int .i64 b.most] 39) (.cells #[.int .i64 11, .int .i64 dst, .int .i64 src, .int .i64 rc, .int .i64 n, .int .i64 tt, .slice a7 items.length p7, .slice a8 index.length p8] 33)
  have KC0 := ((BoxAt.new w #[.slice a0 c.recs.length p0, .slice a1 c.globs.length p1, .slice (some ⟨bt, ot, none⟩) c.threads.length p2, .slice a3 c.sites.length p3, .slice a4 c.secs.length p4] 28).past (.cells #[.slice a5 b.slots.length p5, .slice (some ⟨bi, oi, none⟩) b.code.length p6, .int .i64 b.most] 39)).past (.cells #[.int .i64 11, .int .i64 dst, .int .i64 src, .int .i64 rc, .int .i64 n, .int .i64 tt, .slice a7 items.length p7, .slice a8 index.length p8] 33)
  have KB0 := (BoxAt.new (w.alloc (.cells #[.slice a0 c.recs.length p0, .slice a1 c.globs.length p1, .slice (some ⟨bt, ot, none⟩) c.threads.length p2, .slice a3 c.sites.length p3, .slice a4 c.secs.length p4] 28)) #[.slice a5 b.slots.length p5, .slice (some ⟨bi, oi, none⟩) b.code.length p6, .int .i64 b.most] 39).past (.cells #[.int .i64 11, .int .i64 dst, .int .i64 src, .int .i64 rc, .int .i64 n, .int .i64 tt, .slice a7 items.length p7, .slice a8 index.length p8] 33)
  have KX0 := BoxAt.new ((w.alloc (.cells #[.slice a0 c.recs.length p0, .slice a1 c.globs.length p1, .slice (some ⟨bt, ot, none⟩) c.threads.length p2, .slice a3 c.sites.length p3, .slice a4 c.secs.length p4] 28)).alloc (.cells #[.slice a5 b.slots.length p5, .slice (some ⟨bi, oi, none⟩) b.code.length p6, .int .i64 b.most] 39)) #[.int .i64 11, .int .i64 dst, .int .i64 src, .int .i64 rc, .int .i64 n, .int .i64 tt, .slice a7 items.length p7, .slice a8 index.length p8] 33
  simp only [World.size_alloc] at KB0 KX0
  have F : Hid (insOk c i b k ⟨11, dst, src, rc, n, tt, items, .slice a7 items.length p7, index, .slice a8 index.length p8⟩ = insF c i b k ⟨11, dst, src, rc, n, tt, items, .slice a7 items.length p7, index, .slice a8 index.length p8⟩) := hid (insOk_eq _ _ _ _ _)
  generalize hrr : insOk c i b k ⟨11, dst, src, rc, n, tt, items, .slice a7 items.length p7, index, .slice a8 index.length p8⟩ = rr at *
  clear e0 e1 e2 e3 e4 e5 e6 hT hC hrr
  replace C100 := hid C100
  replace C115 := hid C115
  replace C114 := hid C114
  replace C110 := hid C110
  replace C116 := hid C116
  replace C105 := hid C105
  replace C120 := hid C120
  replace D100 := hid D100
  replace D115 := hid D115
  replace D114 := hid D114
  replace D105 := hid D105
  replace D120 := hid D120
  replace KC0 := hid KC0
  replace KB0 := hid KB0
  replace KX0 := hid KX0
  replace DI := hid DI
  replace HH := hid HH
  replace BB := hid BB
  replace hl := hid hl
  replace hsl := hid hsl
  replace hgl := hid hgl
  replace hre := hid hre
  replace hst := hid hst
  replace hc := hid hc
  replace hs := hid hs
  replace ht := hid ht
  replace hx := hid hx
  replace xok := hid xok
  replace bok := hid bok
  replace hsec := hid hsec
  replace hq := hid hq
  go_enter Try.func21, Try.ntmps21
  go_upto_region 4 with (go_at_call 43; refine Calls.mono (HH.out _) ?_; rintro e w1 ⟨rfl, hb⟩; have B1 := hid (bover BB.out hb); have KC := hid (KC0.out.kept hb); have KB := hid (KB0.out.kept hb); have KX := hid (KX0.out.kept hb); clear KC0 KB0 KX0 BB hb)
  obtain ⟨cA, hA⟩ : ∃ q, tA ⟨11, dst, src, rc, n, tt, items, .slice a7 items.length p7, index, .slice a8 index.length p8⟩ = q := ⟨_, rfl⟩
  replace hA := hid hA
  refine region4_any hq.out C100.out C115.out C114.out C110.out C116.out C105.out C120.out KX.out hA.out ?_
  intro g
  clear t0 t1 t2 d0 d1 d2 d3 d4 d5 d6 d7 Hd Hs Hr Hn Ht Hi Hx HH hq ii q1 q3 q5 qs qi1 qi2
  have h1000 : (b.code.length : Int) ≤ 1000 := by omega
  cases cA
  rotate_left
  · have G : Hid (rr = false) := hid (by rw [F.out]; simp [insF, hA.out])
    clear F DI KC KB KX hA hgl hre hst hl hsl hc hs ht hx xok bok hsec C100 C115 C114 C110 C116 C105 C120 D100 D115 D114 D105 D120
    go_wp2_with fail
    go_ret
    exact ⟨retB G.out.symm, B1.out⟩
  obtain ⟨b0, b1, b2⟩ := three0 KB.out
  go_upto_region 7 with fail
  clear b0 b1 b2
  obtain ⟨cB, hB⟩ : ∃ q, tB c b ⟨11, dst, src, rc, n, tt, items, .slice a7 items.length p7, index, .slice a8 index.length p8⟩ = q := ⟨_, rfl⟩
  replace hB := hid hB
  refine region7_any C100.out C115.out C105.out C120.out C114.out D100.out D115.out D114.out (D105.out.mono B1.out) (D120.out.mono B1.out) KX.out KC.out hB.out ?_
  intro w2 hb g2
  replace B1 := hid (bover B1.out hb)
  replace KC := hid (KC.out.kept hb)
  replace KB := hid (KB.out.kept hb)
  replace KX := hid (KX.out.kept hb)
  replace C100 : Hid (∀ W, Calls Try.prog 44 #[.string ⟨#[105]⟩, .int .u8 100] W fun e w' => e = .returned (.bool false) ∧ w' = W) := C100
  replace C115 : Hid (∀ W, Calls Try.prog 44 #[.string ⟨#[105]⟩, .int .u8 115] W fun e w' => e = .returned (.bool false) ∧ w' = W) := C115
  clear hb C105 C120 C114 D100 D115 D114 D105 D120
  cases cB
  rotate_left
  · have G : Hid (rr = false) := hid (by rw [F.out]; simp [insF, hB.out])
    clear F DI KC KB KX hgl hre hst hA hB hl hsl hc hs ht hx xok bok hsec C110 C116 C100 C115
    go_wp2_with fail
    go_ret
    exact ⟨retB G.out.symm, B1.out⟩
  have hC3 : Hid (tC c i b k ⟨11, dst, src, rc, n, tt, items, .slice a7 items.length p7, index, .slice a8 index.length p8⟩ = false) := hid rfl
  go_wp2_with fail
  go_quiet ((first | (go_at_call 44; exact Calls.quiet_of_same (C116.out _))))
  replace KC := hid (KC.out.kept (quietB (Below.refl _ _) nq))
  replace KB := hid (KB.out.kept (quietB (Below.refl _ _) nq))
  replace KX := hid (KX.out.kept (quietB (Below.refl _ _) nq))
  replace B1 := hid (quietB B1.out nq)
  generalize w2.drewN nq = w3 at *
  clear C116
  have hD3 : Hid (tD c i k ⟨11, dst, src, rc, n, tt, items, .slice a7 items.length p7, index, .slice a8 index.length p8⟩ = false) := hid rfl
  obtain ⟨b0, b1, b2⟩ := three0 KB.out
  obtain ⟨f0, f1, f2, f3, f4, f5, f6, f7⟩ := eight KX.out
  obtain ⟨c0, c1, c2, c3, c4⟩ := five0 KC.out
  have lb : _ < w3.heap.size := KB.out.1
  have lx : _ < w3.heap.size := KX.out.1
  have lc : _ < w3.heap.size := KC.out.1
  go_upto_region 13 with fail
  clear lb lx lc b0 b1 b2 f0 f1 f2 f3 f4 f5 f6 f7 c0 c1 c2 c3 c4
  cases z6 : ((k : Int) == (b.code.length : Int) - 1)
  rotate_left
  · have G : Hid (rr = false) := hid (by rw [F.out]; simp [insF, tE, z6])
    clear F hA hB hC3 hD3 hgl hre hst hl hsl hc hs ht hx xok bok hsec C100 C115 C110
    obtain ⟨b0, b1, b2⟩ := three0 KB.out
    obtain ⟨f0, f1, f2, f3, f4, f5, f6, f7⟩ := eight KX.out
    obtain ⟨c0, c1, c2, c3, c4⟩ := five0 KC.out
    have lb : _ < w3.heap.size := KB.out.1
    have lx : _ < w3.heap.size := KX.out.1
    have lc : _ < w3.heap.size := KC.out.1
    go_wp2_with fail
    go_ret
    exact ⟨retB G.out.symm, B1.out⟩
  have hE3 : Hid (tE b k ⟨11, dst, src, rc, n, tt, items, .slice a7 items.length p7, index, .slice a8 index.length p8⟩ = false) := hid (by simp [tE, z6])
  have F2 : Hid (rr = agreesB c i b k ⟨11, dst, src, rc, n, tt, items, .slice a7 items.length p7, index, .slice a8 index.length p8⟩) := hid (by rw [F.out]; simp [insF, hA.out, hB.out, hC3.out, hD3.out, hE3.out, isOp])
  clear F hA hB hC3 hD3 hE3
  obtain ⟨b0, b1, b2⟩ := three0 KB.out
  obtain ⟨f0, f1, f2, f3, f4, f5, f6, f7⟩ := eight KX.out
  obtain ⟨c0, c1, c2, c3, c4⟩ := five0 KC.out
  have lb : _ < w3.heap.size := KB.out.1
  have lx : _ < w3.heap.size := KX.out.1
  have lc : _ < w3.heap.size := KC.out.1
  clear hgl hre hst hl hsl hc hs ht hx xok bok hsec KC KB KX
  go_wp2_with (first | (go_at_call 44; with_reducible refine Calls.mono (C100.out _) ?_; rintro e w9 ⟨rfl, rfl⟩) | (go_at_call 44; with_reducible refine Calls.mono (C115.out _) ?_; rintro e w9 ⟨rfl, rfl⟩))
  go_ret
  exact ⟨retB (F2.out.trans (by rfl)).symm, bel2 B1.out _ _⟩

set_option maxRecDepth 100000 in
set_option maxHeartbeats 4000000 in
theorem rin12 (c : Cd) (i k : Nat) (b : Bd) (dst src rc n tt : Int) (items index : List Itm) (iv xv : Value) (w : World) (hc : c.okW w) (hs : SmallP c) (ht : c.threads[i]? = some b) (hx : b.code[k]? = some ⟨12, dst, src, rc, n, tt, items, iv, index, xv⟩)
    (hl : ∀ (j : Nat) (l : Loc), b.slots[j]? = some l → locOk c.recs.length l = true) :
    Calls Try.prog 21 #[.agg #[c.rv, c.gv, c.tv, c.ev, c.cv], .int .i64 i, .int .i64 k] w fun e w' => e = .returned (.bool (insOk c i b k ⟨12, dst, src, rc, n, tt, items, iv, index, xv⟩)) ∧ Below w.heap.size w w' := by
  obtain ⟨a0, p0, a1, p1, a2, p2, a3, p3, a4, p4, e0, e1, e2, e3, e4⟩ := cd_open hc
  have hit := (List.getElem?_eq_some_iff.1 ht).1
  have hkt := (List.getElem?_eq_some_iff.1 hx).1
  obtain ⟨at', ct, et, hT⟩ := bd_cells hc.2.2.1
  rw [e2] at et; cases et
  obtain ⟨b', bt, ot, a5, p5, a6, p6, hb', rfl, hbt, e5, e6, t0, t1, t2, bok⟩ := hT i hit
  rw [ht] at hb'; cases hb'
  obtain ⟨ac, cc, ec, hC⟩ := ins_cells bok.2.2
  rw [e6] at ec; cases ec
  obtain ⟨x', bi, oi, a7, p7, a8, p8, hx', rfl, hbi, e7, e8, ⟨d0, d1, d2, d3, d4, d5, d6, d7⟩, xok⟩ := hC k hkt
  rw [hx] at hx'; cases hx'
  simp only at e7 e8 d0 d1 d2 d3 d4 d5 d6 d7
  subst e7 e8
  have q1 := hs.l1
  have q3 := hs.l3
  have q5 := hs.l5
  have qs := hs.slots i b ht
  have qc := hs.code i b ht
  have qi := hs.items i b ht k _ hx
  simp only at qi
  obtain ⟨qi1, qi2⟩ := qi
  have ii : (i : Int) < (c.threads.length : Int) := by omega
  have kk : (k : Int) < (b.code.length : Int) := by omega
  have hsec := hc.2.2.2.2
  rw [e4] at hsec
  have Hd : hasC ⟨#[105]⟩ 100 = false := by decide
  have Hs : hasC ⟨#[105]⟩ 115 = false := by decide
  have Hr : hasC ⟨#[105]⟩ 114 = false := by decide
  have Hn : hasC ⟨#[105]⟩ 110 = false := by decide
  have Ht : hasC ⟨#[105]⟩ 116 = false := by decide
  have Hi : hasC ⟨#[105]⟩ 105 = true := by decide
  have Hx : hasC ⟨#[105]⟩ 120 = false := by decide
  have HH := fun W => Has12 W
  have Ni : ∀ W, Below w.heap.size w W → Calls Try.prog 45 #[.slice a7 items.length p7, .int .i64 (b.slots.length : Int)] W fun e w' => e = .returned (.bool (goodB (b.slots.length : Int) items)) ∧ Below W.heap.size W w' := fun W h => by
    obtain ⟨a, cap, e, hI⟩ := (Items.kept xok.2.1 h).at
    simp only at e
    cases e
    exact rgood_any (b.slots.length : Int) a7 items.length p7 items W rfl hI (by omega) (by omega) (by omega)
  have DI := fun (pl : Int) W (h : Below w.heap.size w W) => rinside_any (.slice a0 c.recs.length p0) (.slice a1 c.globs.length p1) (.slice (some ⟨bt, ot, none⟩) c.threads.length p2) (.slice a3 c.sites.length p3) (.slice a4 c.secs.length p4) c.secs i pl W (Secs.kept hsec h) (by omega)
  clear Ni
  have C100 : HasSays ⟨#[105]⟩ 100 false := fun W => by have h := has_any ⟨#[105]⟩ 100 W (by decide); rw [Hd] at h; exact h
  have C115 : HasSays ⟨#[105]⟩ 115 false := fun W => by have h := has_any ⟨#[105]⟩ 115 W (by decide); rw [Hs] at h; exact h
  have C114 : HasSays ⟨#[105]⟩ 114 false := fun W => by have h := has_any ⟨#[105]⟩ 114 W (by decide); rw [Hr] at h; exact h
  have C110 : HasSays ⟨#[105]⟩ 110 false := fun W => by have h := has_any ⟨#[105]⟩ 110 W (by decide); rw [Hn] at h; exact h
  have C116 : HasSays ⟨#[105]⟩ 116 false := fun W => by have h := has_any ⟨#[105]⟩ 116 W (by decide); rw [Ht] at h; exact h
  have C105 : HasSays ⟨#[105]⟩ 105 true := fun W => by have h := has_any ⟨#[105]⟩ 105 W (by decide); rw [Hi] at h; exact h
  have C120 : HasSays ⟨#[105]⟩ 120 false := fun W => by have h := has_any ⟨#[105]⟩ 120 W (by decide); rw [Hx] at h; exact h
  have hq : ((⟨#[105]⟩ : ByteArray).toList == (⟨#[63]⟩ : ByteArray).toList) = false := by first | kernel_rfl | rfl | (simp [ByteArray.toList, ByteArray.toList.loop]; done)
  have D100 : InSays dst (b.slots.length : Int) (isIn dst b.slots.length) := fun W => in_any dst (b.slots.length : Int) b.slots.length rfl W
  have D115 : InSays src (b.slots.length : Int) (isIn src b.slots.length) := fun W => in_any src (b.slots.length : Int) b.slots.length rfl W
  have D114 : InSays rc (c.recs.length : Int) (isIn rc c.recs.length) := fun W => in_any rc (c.recs.length : Int) c.recs.length rfl W
  have D105 : GoodSays w (.slice a7 items.length p7) (b.slots.length : Int) (goodB (b.slots.length : Int) items) := fun W h => by
    obtain ⟨a, cap, e, hI⟩ := (Items.kept xok.2.1 h).at
    simp only at e
    cases e
    exact rgood_any (b.slots.length : Int) a7 items.length p7 items W rfl hI (by omega) (by omega) (by omega)
  have D120 : GoodSays w (.slice a8 index.length p8) (b.slots.length : Int) (goodB (b.slots.length : Int) index) := fun W h => by
    obtain ⟨a, cap, e, hI⟩ := (Items.kept xok.2.2 h).at
    simp only at e
    cases e
    exact rgood_any (b.slots.length : Int) a8 index.length p8 index W rfl hI (by omega) (by omega) (by omega)
  rw [e0, e1, e2, e3, e4]
  have hsl := bok.2.1
  rw [e5] at hsl
  have hgl := hc.2.1
  rw [e1] at hgl
  have hre := hc.1
  rw [e0] at hre
  have hst := hc.2.2.2.1
  rw [e3] at hst
  have BB := below3 w (.cells #[.slice a0 c.recs.length p0, .slice a1 c.globs.length p1, .slice (some ⟨bt, ot, none⟩) c.threads.length p2, .slice a3 c.sites.length p3, .slice a4 c.secs.length p4] 28) (.cells #[.slice a5 b.slots.length p5, .slice (some ⟨bi, oi, none⟩) b.code.length p6, .int .i64 b.most] 39) (.cells #[.int .i64 12, .int .i64 dst, .int .i64 src, .int .i64 rc, .int .i64 n, .int .i64 tt, .slice a7 items.length p7, .slice a8 index.length p8] 33)
  have KC0 := ((BoxAt.new w #[.slice a0 c.recs.length p0, .slice a1 c.globs.length p1, .slice (some ⟨bt, ot, none⟩) c.threads.length p2, .slice a3 c.sites.length p3, .slice a4 c.secs.length p4] 28).past (.cells #[.slice a5 b.slots.length p5, .slice (some ⟨bi, oi, none⟩) b.code.length p6, .int .i64 b.most] 39)).past (.cells #[.int .i64 12, .int .i64 dst, .int .i64 src, .int .i64 rc, .int .i64 n, .int .i64 tt, .slice a7 items.length p7, .slice a8 index.length p8] 33)
  have KB0 := (BoxAt.new (w.alloc (.cells #[.slice a0 c.recs.length p0, .slice a1 c.globs.length p1, .slice (some ⟨bt, ot, none⟩) c.threads.length p2, .slice a3 c.sites.length p3, .slice a4 c.secs.length p4] 28)) #[.slice a5 b.slots.length p5, .slice (some ⟨bi, oi, none⟩) b.code.length p6, .int .i64 b.most] 39).past (.cells #[.int .i64 12, .int .i64 dst, .int .i64 src, .int .i64 rc, .int .i64 n, .int .i64 tt, .slice a7 items.length p7, .slice a8 index.length p8] 33)
  have KX0 := BoxAt.new ((w.alloc (.cells #[.slice a0 c.recs.length p0, .slice a1 c.globs.length p1, .slice (some ⟨bt, ot, none⟩) c.threads.length p2, .slice a3 c.sites.length p3, .slice a4 c.secs.length p4] 28)).alloc (.cells #[.slice a5 b.slots.length p5, .slice (some ⟨bi, oi, none⟩) b.code.length p6, .int .i64 b.most] 39)) #[.int .i64 12, .int .i64 dst, .int .i64 src, .int .i64 rc, .int .i64 n, .int .i64 tt, .slice a7 items.length p7, .slice a8 index.length p8] 33
  simp only [World.size_alloc] at KB0 KX0
  have F : Hid (insOk c i b k ⟨12, dst, src, rc, n, tt, items, .slice a7 items.length p7, index, .slice a8 index.length p8⟩ = insF c i b k ⟨12, dst, src, rc, n, tt, items, .slice a7 items.length p7, index, .slice a8 index.length p8⟩) := hid (insOk_eq _ _ _ _ _)
  generalize hrr : insOk c i b k ⟨12, dst, src, rc, n, tt, items, .slice a7 items.length p7, index, .slice a8 index.length p8⟩ = rr at *
  clear e0 e1 e2 e3 e4 e5 e6 hT hC hrr
  replace C100 := hid C100
  replace C115 := hid C115
  replace C114 := hid C114
  replace C110 := hid C110
  replace C116 := hid C116
  replace C105 := hid C105
  replace C120 := hid C120
  replace D100 := hid D100
  replace D115 := hid D115
  replace D114 := hid D114
  replace D105 := hid D105
  replace D120 := hid D120
  replace KC0 := hid KC0
  replace KB0 := hid KB0
  replace KX0 := hid KX0
  replace DI := hid DI
  replace HH := hid HH
  replace BB := hid BB
  replace hl := hid hl
  replace hsl := hid hsl
  replace hgl := hid hgl
  replace hre := hid hre
  replace hst := hid hst
  replace hc := hid hc
  replace hs := hid hs
  replace ht := hid ht
  replace hx := hid hx
  replace xok := hid xok
  replace bok := hid bok
  replace hsec := hid hsec
  replace hq := hid hq
  go_enter Try.func21, Try.ntmps21
  go_upto_region 4 with (go_at_call 43; refine Calls.mono (HH.out _) ?_; rintro e w1 ⟨rfl, hb⟩; have B1 := hid (bover BB.out hb); have KC := hid (KC0.out.kept hb); have KB := hid (KB0.out.kept hb); have KX := hid (KX0.out.kept hb); clear KC0 KB0 KX0 BB hb)
  obtain ⟨cA, hA⟩ : ∃ q, tA ⟨12, dst, src, rc, n, tt, items, .slice a7 items.length p7, index, .slice a8 index.length p8⟩ = q := ⟨_, rfl⟩
  replace hA := hid hA
  refine region4_any hq.out C100.out C115.out C114.out C110.out C116.out C105.out C120.out KX.out hA.out ?_
  intro g
  clear t0 t1 t2 d0 d1 d2 d3 d4 d5 d6 d7 Hd Hs Hr Hn Ht Hi Hx HH hq ii q1 q3 q5 qs qi1 qi2
  have h1000 : (b.code.length : Int) ≤ 1000 := by omega
  cases cA
  rotate_left
  · have G : Hid (rr = false) := hid (by rw [F.out]; simp [insF, hA.out])
    clear F DI KC KB KX hA hgl hre hst hl hsl hc hs ht hx xok bok hsec C100 C115 C114 C110 C116 C105 C120 D100 D115 D114 D105 D120
    go_wp2_with fail
    go_ret
    exact ⟨retB G.out.symm, B1.out⟩
  obtain ⟨b0, b1, b2⟩ := three0 KB.out
  go_upto_region 7 with fail
  clear b0 b1 b2
  obtain ⟨cB, hB⟩ : ∃ q, tB c b ⟨12, dst, src, rc, n, tt, items, .slice a7 items.length p7, index, .slice a8 index.length p8⟩ = q := ⟨_, rfl⟩
  replace hB := hid hB
  refine region7_any C100.out C115.out C105.out C120.out C114.out D100.out D115.out D114.out (D105.out.mono B1.out) (D120.out.mono B1.out) KX.out KC.out hB.out ?_
  intro w2 hb g2
  replace B1 := hid (bover B1.out hb)
  replace KC := hid (KC.out.kept hb)
  replace KB := hid (KB.out.kept hb)
  replace KX := hid (KX.out.kept hb)
  replace C100 : Hid (∀ W, Calls Try.prog 44 #[.string ⟨#[105]⟩, .int .u8 100] W fun e w' => e = .returned (.bool false) ∧ w' = W) := C100
  replace C115 : Hid (∀ W, Calls Try.prog 44 #[.string ⟨#[105]⟩, .int .u8 115] W fun e w' => e = .returned (.bool false) ∧ w' = W) := C115
  clear hb C105 C120 C114 D100 D115 D114 D105 D120
  cases cB
  rotate_left
  · have G : Hid (rr = false) := hid (by rw [F.out]; simp [insF, hB.out])
    clear F DI KC KB KX hgl hre hst hA hB hl hsl hc hs ht hx xok bok hsec C110 C116 C100 C115
    go_wp2_with fail
    go_ret
    exact ⟨retB G.out.symm, B1.out⟩
  have hC3 : Hid (tC c i b k ⟨12, dst, src, rc, n, tt, items, .slice a7 items.length p7, index, .slice a8 index.length p8⟩ = false) := hid rfl
  go_wp2_with fail
  go_quiet ((first | (go_at_call 44; exact Calls.quiet_of_same (C116.out _))))
  replace KC := hid (KC.out.kept (quietB (Below.refl _ _) nq))
  replace KB := hid (KB.out.kept (quietB (Below.refl _ _) nq))
  replace KX := hid (KX.out.kept (quietB (Below.refl _ _) nq))
  replace B1 := hid (quietB B1.out nq)
  generalize w2.drewN nq = w3 at *
  clear C116
  have hD3 : Hid (tD c i k ⟨12, dst, src, rc, n, tt, items, .slice a7 items.length p7, index, .slice a8 index.length p8⟩ = false) := hid rfl
  obtain ⟨b0, b1, b2⟩ := three0 KB.out
  obtain ⟨f0, f1, f2, f3, f4, f5, f6, f7⟩ := eight KX.out
  obtain ⟨c0, c1, c2, c3, c4⟩ := five0 KC.out
  have lb : _ < w3.heap.size := KB.out.1
  have lx : _ < w3.heap.size := KX.out.1
  have lc : _ < w3.heap.size := KC.out.1
  go_upto_region 13 with fail
  clear lb lx lc b0 b1 b2 f0 f1 f2 f3 f4 f5 f6 f7 c0 c1 c2 c3 c4
  cases z6 : ((k : Int) == (b.code.length : Int) - 1)
  rotate_left
  · have G : Hid (rr = false) := hid (by rw [F.out]; simp [insF, tE, z6])
    clear F hA hB hC3 hD3 hgl hre hst hl hsl hc hs ht hx xok bok hsec C100 C115 C110
    obtain ⟨b0, b1, b2⟩ := three0 KB.out
    obtain ⟨f0, f1, f2, f3, f4, f5, f6, f7⟩ := eight KX.out
    obtain ⟨c0, c1, c2, c3, c4⟩ := five0 KC.out
    have lb : _ < w3.heap.size := KB.out.1
    have lx : _ < w3.heap.size := KX.out.1
    have lc : _ < w3.heap.size := KC.out.1
    go_wp2_with fail
    go_ret
    exact ⟨retB G.out.symm, B1.out⟩
  have hE3 : Hid (tE b k ⟨12, dst, src, rc, n, tt, items, .slice a7 items.length p7, index, .slice a8 index.length p8⟩ = false) := hid (by simp [tE, z6])
  have F2 : Hid (rr = agreesB c i b k ⟨12, dst, src, rc, n, tt, items, .slice a7 items.length p7, index, .slice a8 index.length p8⟩) := hid (by rw [F.out]; simp [insF, hA.out, hB.out, hC3.out, hD3.out, hE3.out, isOp])
  clear F hA hB hC3 hD3 hE3
  obtain ⟨b0, b1, b2⟩ := three0 KB.out
  obtain ⟨f0, f1, f2, f3, f4, f5, f6, f7⟩ := eight KX.out
  obtain ⟨c0, c1, c2, c3, c4⟩ := five0 KC.out
  have lb : _ < w3.heap.size := KB.out.1
  have lx : _ < w3.heap.size := KX.out.1
  have lc : _ < w3.heap.size := KC.out.1
  clear hgl hre hst hl hsl hc hs ht hx xok bok hsec KC KB KX
  go_wp2_with (first | (go_at_call 44; with_reducible refine Calls.mono (C100.out _) ?_; rintro e w9 ⟨rfl, rfl⟩) | (go_at_call 44; with_reducible refine Calls.mono (C115.out _) ?_; rintro e w9 ⟨rfl, rfl⟩))
  go_ret
  exact ⟨retB (F2.out.trans (by rfl)).symm, bel2 B1.out _ _⟩

set_option maxRecDepth 100000 in
set_option maxHeartbeats 4000000 in
theorem rin17 (c : Cd) (i k : Nat) (b : Bd) (dst src rc n tt : Int) (items index : List Itm) (iv xv : Value) (w : World) (hc : c.okW w) (hs : SmallP c) (ht : c.threads[i]? = some b) (hx : b.code[k]? = some ⟨17, dst, src, rc, n, tt, items, iv, index, xv⟩)
    (hl : ∀ (j : Nat) (l : Loc), b.slots[j]? = some l → locOk c.recs.length l = true) :
    Calls Try.prog 21 #[.agg #[c.rv, c.gv, c.tv, c.ev, c.cv], .int .i64 i, .int .i64 k] w fun e w' => e = .returned (.bool (insOk c i b k ⟨17, dst, src, rc, n, tt, items, iv, index, xv⟩)) ∧ Below w.heap.size w w' := by
  obtain ⟨a0, p0, a1, p1, a2, p2, a3, p3, a4, p4, e0, e1, e2, e3, e4⟩ := cd_open hc
  have hit := (List.getElem?_eq_some_iff.1 ht).1
  have hkt := (List.getElem?_eq_some_iff.1 hx).1
  obtain ⟨at', ct, et, hT⟩ := bd_cells hc.2.2.1
  rw [e2] at et; cases et
  obtain ⟨b', bt, ot, a5, p5, a6, p6, hb', rfl, hbt, e5, e6, t0, t1, t2, bok⟩ := hT i hit
  rw [ht] at hb'; cases hb'
  obtain ⟨ac, cc, ec, hC⟩ := ins_cells bok.2.2
  rw [e6] at ec; cases ec
  obtain ⟨x', bi, oi, a7, p7, a8, p8, hx', rfl, hbi, e7, e8, ⟨d0, d1, d2, d3, d4, d5, d6, d7⟩, xok⟩ := hC k hkt
  rw [hx] at hx'; cases hx'
  simp only at e7 e8 d0 d1 d2 d3 d4 d5 d6 d7
  subst e7 e8
  have q1 := hs.l1
  have q3 := hs.l3
  have q5 := hs.l5
  have qs := hs.slots i b ht
  have qc := hs.code i b ht
  have qi := hs.items i b ht k _ hx
  simp only at qi
  obtain ⟨qi1, qi2⟩ := qi
  have ii : (i : Int) < (c.threads.length : Int) := by omega
  have kk : (k : Int) < (b.code.length : Int) := by omega
  have hsec := hc.2.2.2.2
  rw [e4] at hsec
  have Hd : hasC ⟨#[]⟩ 100 = false := by decide
  have Hs : hasC ⟨#[]⟩ 115 = false := by decide
  have Hr : hasC ⟨#[]⟩ 114 = false := by decide
  have Hn : hasC ⟨#[]⟩ 110 = false := by decide
  have Ht : hasC ⟨#[]⟩ 116 = false := by decide
  have Hi : hasC ⟨#[]⟩ 105 = false := by decide
  have Hx : hasC ⟨#[]⟩ 120 = false := by decide
  have HH := fun W => Has17 W
  have DI := fun (pl : Int) W (h : Below w.heap.size w W) => rinside_any (.slice a0 c.recs.length p0) (.slice a1 c.globs.length p1) (.slice (some ⟨bt, ot, none⟩) c.threads.length p2) (.slice a3 c.sites.length p3) (.slice a4 c.secs.length p4) c.secs i pl W (Secs.kept hsec h) (by omega)
  have C100 : HasSays ⟨#[]⟩ 100 false := fun W => by have h := has_any ⟨#[]⟩ 100 W (by decide); rw [Hd] at h; exact h
  have C115 : HasSays ⟨#[]⟩ 115 false := fun W => by have h := has_any ⟨#[]⟩ 115 W (by decide); rw [Hs] at h; exact h
  have C114 : HasSays ⟨#[]⟩ 114 false := fun W => by have h := has_any ⟨#[]⟩ 114 W (by decide); rw [Hr] at h; exact h
  have C110 : HasSays ⟨#[]⟩ 110 false := fun W => by have h := has_any ⟨#[]⟩ 110 W (by decide); rw [Hn] at h; exact h
  have C116 : HasSays ⟨#[]⟩ 116 false := fun W => by have h := has_any ⟨#[]⟩ 116 W (by decide); rw [Ht] at h; exact h
  have C105 : HasSays ⟨#[]⟩ 105 false := fun W => by have h := has_any ⟨#[]⟩ 105 W (by decide); rw [Hi] at h; exact h
  have C120 : HasSays ⟨#[]⟩ 120 false := fun W => by have h := has_any ⟨#[]⟩ 120 W (by decide); rw [Hx] at h; exact h
  have hq : ((⟨#[]⟩ : ByteArray).toList == (⟨#[63]⟩ : ByteArray).toList) = false := by first | kernel_rfl | rfl | (simp [ByteArray.toList, ByteArray.toList.loop]; done)
  have D100 : InSays dst (b.slots.length : Int) (isIn dst b.slots.length) := fun W => in_any dst (b.slots.length : Int) b.slots.length rfl W
  have D115 : InSays src (b.slots.length : Int) (isIn src b.slots.length) := fun W => in_any src (b.slots.length : Int) b.slots.length rfl W
  have D114 : InSays rc (c.recs.length : Int) (isIn rc c.recs.length) := fun W => in_any rc (c.recs.length : Int) c.recs.length rfl W
  have D105 : GoodSays w (.slice a7 items.length p7) (b.slots.length : Int) (goodB (b.slots.length : Int) items) := fun W h => by
    obtain ⟨a, cap, e, hI⟩ := (Items.kept xok.2.1 h).at
    simp only at e
    cases e
    exact rgood_any (b.slots.length : Int) a7 items.length p7 items W rfl hI (by omega) (by omega) (by omega)
  have D120 : GoodSays w (.slice a8 index.length p8) (b.slots.length : Int) (goodB (b.slots.length : Int) index) := fun W h => by
    obtain ⟨a, cap, e, hI⟩ := (Items.kept xok.2.2 h).at
    simp only at e
    cases e
    exact rgood_any (b.slots.length : Int) a8 index.length p8 index W rfl hI (by omega) (by omega) (by omega)
  rw [e0, e1, e2, e3, e4]
  have hsl := bok.2.1
  rw [e5] at hsl
  have hgl := hc.2.1
  rw [e1] at hgl
  have hre := hc.1
  rw [e0] at hre
  have hst := hc.2.2.2.1
  rw [e3] at hst
  have BB := below3 w (.cells #[.slice a0 c.recs.length p0, .slice a1 c.globs.length p1, .slice (some ⟨bt, ot, none⟩) c.threads.length p2, .slice a3 c.sites.length p3, .slice a4 c.secs.length p4] 28) (.cells #[.slice a5 b.slots.length p5, .slice (some ⟨bi, oi, none⟩) b.code.length p6, .int .i64 b.most] 39) (.cells #[.int .i64 17, .int .i64 dst, .int .i64 src, .int .i64 rc, .int .i64 n, .int .i64 tt, .slice a7 items.length p7, .slice a8 index.length p8] 33)
  have KC0 := ((BoxAt.new w #[.slice a0 c.recs.length p0, .slice a1 c.globs.length p1, .slice (some ⟨bt, ot, none⟩) c.threads.length p2, .slice a3 c.sites.length p3, .slice a4 c.secs.length p4] 28).past (.cells #[.slice a5 b.slots.length p5, .slice (some ⟨bi, oi, none⟩) b.code.length p6, .int .i64 b.most] 39)).past (.cells #[.int .i64 17, .int .i64 dst, .int .i64 src, .int .i64 rc, .int .i64 n, .int .i64 tt, .slice a7 items.length p7, .slice a8 index.length p8] 33)
  have KB0 := (BoxAt.new (w.alloc (.cells #[.slice a0 c.recs.length p0, .slice a1 c.globs.length p1, .slice (some ⟨bt, ot, none⟩) c.threads.length p2, .slice a3 c.sites.length p3, .slice a4 c.secs.length p4] 28)) #[.slice a5 b.slots.length p5, .slice (some ⟨bi, oi, none⟩) b.code.length p6, .int .i64 b.most] 39).past (.cells #[.int .i64 17, .int .i64 dst, .int .i64 src, .int .i64 rc, .int .i64 n, .int .i64 tt, .slice a7 items.length p7, .slice a8 index.length p8] 33)
  have KX0 := BoxAt.new ((w.alloc (.cells #[.slice a0 c.recs.length p0, .slice a1 c.globs.length p1, .slice (some ⟨bt, ot, none⟩) c.threads.length p2, .slice a3 c.sites.length p3, .slice a4 c.secs.length p4] 28)).alloc (.cells #[.slice a5 b.slots.length p5, .slice (some ⟨bi, oi, none⟩) b.code.length p6, .int .i64 b.most] 39)) #[.int .i64 17, .int .i64 dst, .int .i64 src, .int .i64 rc, .int .i64 n, .int .i64 tt, .slice a7 items.length p7, .slice a8 index.length p8] 33
  simp only [World.size_alloc] at KB0 KX0
  have F : Hid (insOk c i b k ⟨17, dst, src, rc, n, tt, items, .slice a7 items.length p7, index, .slice a8 index.length p8⟩ = insF c i b k ⟨17, dst, src, rc, n, tt, items, .slice a7 items.length p7, index, .slice a8 index.length p8⟩) := hid (insOk_eq _ _ _ _ _)
  generalize hrr : insOk c i b k ⟨17, dst, src, rc, n, tt, items, .slice a7 items.length p7, index, .slice a8 index.length p8⟩ = rr at *
  clear e0 e1 e2 e3 e4 e5 e6 hT hC hrr
  replace C100 := hid C100
  replace C115 := hid C115
  replace C114 := hid C114
  replace C110 := hid C110
  replace C116 := hid C116
  replace C105 := hid C105
  replace C120 := hid C120
  replace D100 := hid D100
  replace D115 := hid D115
  replace D114 := hid D114
  replace D105 := hid D105
  replace D120 := hid D120
  replace KC0 := hid KC0
  replace KB0 := hid KB0
  replace KX0 := hid KX0
  replace DI := hid DI
  replace HH := hid HH
  replace BB := hid BB
  replace hl := hid hl
  replace hsl := hid hsl
  replace hgl := hid hgl
  replace hre := hid hre
  replace hst := hid hst
  replace hc := hid hc
  replace hs := hid hs
  replace ht := hid ht
  replace hx := hid hx
  replace xok := hid xok
  replace bok := hid bok
  replace hsec := hid hsec
  replace hq := hid hq
  go_enter Try.func21, Try.ntmps21
  go_upto_region 4 with (go_at_call 43; refine Calls.mono (HH.out _) ?_; rintro e w1 ⟨rfl, hb⟩; have B1 := hid (bover BB.out hb); have KC := hid (KC0.out.kept hb); have KB := hid (KB0.out.kept hb); have KX := hid (KX0.out.kept hb); clear KC0 KB0 KX0 BB hb)
  obtain ⟨cA, hA⟩ : ∃ q, tA ⟨17, dst, src, rc, n, tt, items, .slice a7 items.length p7, index, .slice a8 index.length p8⟩ = q := ⟨_, rfl⟩
  replace hA := hid hA
  refine region4_any hq.out C100.out C115.out C114.out C110.out C116.out C105.out C120.out KX.out hA.out ?_
  intro g
  clear t0 t1 t2 d0 d1 d2 d3 d4 d5 d6 d7 Hd Hs Hr Hn Ht Hi Hx HH hq ii q1 q3 q5 qs qi1 qi2
  have h1000 : (b.code.length : Int) ≤ 1000 := by omega
  cases cA
  rotate_left
  · have G : Hid (rr = false) := hid (by rw [F.out]; simp [insF, hA.out])
    clear F DI KC KB KX hA hgl hre hst hl hsl hc hs ht hx xok bok hsec C100 C115 C114 C110 C116 C105 C120 D100 D115 D114 D105 D120
    go_wp2_with fail
    go_ret
    exact ⟨retB G.out.symm, B1.out⟩
  obtain ⟨b0, b1, b2⟩ := three0 KB.out
  go_upto_region 7 with fail
  clear b0 b1 b2
  obtain ⟨cB, hB⟩ : ∃ q, tB c b ⟨17, dst, src, rc, n, tt, items, .slice a7 items.length p7, index, .slice a8 index.length p8⟩ = q := ⟨_, rfl⟩
  replace hB := hid hB
  refine region7_any C100.out C115.out C105.out C120.out C114.out D100.out D115.out D114.out (D105.out.mono B1.out) (D120.out.mono B1.out) KX.out KC.out hB.out ?_
  intro w2 hb g2
  replace B1 := hid (bover B1.out hb)
  replace KC := hid (KC.out.kept hb)
  replace KB := hid (KB.out.kept hb)
  replace KX := hid (KX.out.kept hb)
  replace C100 : Hid (∀ W, Calls Try.prog 44 #[.string ⟨#[]⟩, .int .u8 100] W fun e w' => e = .returned (.bool false) ∧ w' = W) := C100
  replace C115 : Hid (∀ W, Calls Try.prog 44 #[.string ⟨#[]⟩, .int .u8 115] W fun e w' => e = .returned (.bool false) ∧ w' = W) := C115
  clear hb C105 C120 C114 D100 D115 D114 D105 D120
  cases cB
  rotate_left
  · have G : Hid (rr = false) := hid (by rw [F.out]; simp [insF, hB.out])
    clear F DI KC KB KX hgl hre hst hA hB hl hsl hc hs ht hx xok bok hsec C110 C116 C100 C115
    go_wp2_with fail
    go_ret
    exact ⟨retB G.out.symm, B1.out⟩
  have hC3 : Hid (tC c i b k ⟨17, dst, src, rc, n, tt, items, .slice a7 items.length p7, index, .slice a8 index.length p8⟩ = false) := hid rfl
  go_wp2_with fail
  go_quiet ((first | (go_at_call 44; exact Calls.quiet_of_same (C116.out _))))
  replace KC := hid (KC.out.kept (quietB (Below.refl _ _) nq))
  replace KB := hid (KB.out.kept (quietB (Below.refl _ _) nq))
  replace KX := hid (KX.out.kept (quietB (Below.refl _ _) nq))
  replace B1 := hid (quietB B1.out nq)
  generalize w2.drewN nq = w3 at *
  clear C116
  have hD3 : Hid (tD c i k ⟨17, dst, src, rc, n, tt, items, .slice a7 items.length p7, index, .slice a8 index.length p8⟩ = false) := hid rfl
  obtain ⟨b0, b1, b2⟩ := three0 KB.out
  obtain ⟨f0, f1, f2, f3, f4, f5, f6, f7⟩ := eight KX.out
  obtain ⟨c0, c1, c2, c3, c4⟩ := five0 KC.out
  have lb : _ < w3.heap.size := KB.out.1
  have lx : _ < w3.heap.size := KX.out.1
  have lc : _ < w3.heap.size := KC.out.1
  go_upto_region 13 with fail
  clear lb lx lc b0 b1 b2 f0 f1 f2 f3 f4 f5 f6 f7 c0 c1 c2 c3 c4
  cases z6 : ((k : Int) == (b.code.length : Int) - 1)
  · have G : Hid (rr = false) := hid (by rw [F.out]; simp [insF, tE, z6])
    clear F hA hB hC3 hD3 hgl hre hst hl hsl hc hs ht hx xok bok hsec C100 C115 C110
    obtain ⟨b0, b1, b2⟩ := three0 KB.out
    obtain ⟨f0, f1, f2, f3, f4, f5, f6, f7⟩ := eight KX.out
    obtain ⟨c0, c1, c2, c3, c4⟩ := five0 KC.out
    have lb : _ < w3.heap.size := KB.out.1
    have lx : _ < w3.heap.size := KX.out.1
    have lc : _ < w3.heap.size := KC.out.1
    go_wp2_with fail
    go_ret
    exact ⟨retB G.out.symm, B1.out⟩
  have hE3 : Hid (tE b k ⟨17, dst, src, rc, n, tt, items, .slice a7 items.length p7, index, .slice a8 index.length p8⟩ = false) := hid (by simp [tE, z6])
  have F2 : Hid (rr = agreesB c i b k ⟨17, dst, src, rc, n, tt, items, .slice a7 items.length p7, index, .slice a8 index.length p8⟩) := hid (by rw [F.out]; simp [insF, hA.out, hB.out, hC3.out, hD3.out, hE3.out, isOp])
  clear F hA hB hC3 hD3 hE3
  obtain ⟨b0, b1, b2⟩ := three0 KB.out
  obtain ⟨f0, f1, f2, f3, f4, f5, f6, f7⟩ := eight KX.out
  obtain ⟨c0, c1, c2, c3, c4⟩ := five0 KC.out
  have lb : _ < w3.heap.size := KB.out.1
  have lx : _ < w3.heap.size := KX.out.1
  have lc : _ < w3.heap.size := KC.out.1
  clear hgl hre hst hl hsl hc hs ht hx xok bok hsec KC KB KX
  go_wp2_with (first | (go_at_call 44; with_reducible refine Calls.mono (C100.out _) ?_; rintro e w9 ⟨rfl, rfl⟩) | (go_at_call 44; with_reducible refine Calls.mono (C115.out _) ?_; rintro e w9 ⟨rfl, rfl⟩))
  go_ret
  exact ⟨retB (F2.out.trans (by rfl)).symm, bel2 B1.out _ _⟩

end Go.Proofs.Ytjjfhjelkioehaa
