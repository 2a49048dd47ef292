/- Contract of code's Good: whether a code can be. -/
import Derived.Test.YtkdpcaoocmbbhaaDoorLook
namespace Go.Proofs.YtkdpcaoocmbbhaaDoor
open Go.ChangeShapes Go.WideShapes Go.ChangeAt Go.RowKit
set_option linter.unusedVariables false
set_option linter.unusedSimpArgs false

set_option maxRecDepth 100000 in
set_option maxHeartbeats 1000000 in
theorem insWrong_any (c : Cd) (th j : Int) (b : Bd) (bl : Nat) (x : Ins) (w : World) (hc : c.okW w) (hs : SmallP c) (hb : b.okW w) (hbs : b.slots.length ≤ 1000) (hbc : b.code.length ≤ 1000) (hx : x.okW w) (hxi : x.items.length ≤ 1000) (hxx : x.index.length ≤ 1000)
    (hL : BoxAt w bl [c.rv, c.gv, c.tv, c.ev, c.cv, .int .i64 th, b.sv, b.cv, .int .i64 b.most]) :
    Calls Tryd.prog 74 #[.int .i64 j, .agg #[.int .i64 x.op, .int .i64 x.dst, .int .i64 x.src, .int .i64 x.rc, .int .i64 x.n, .int .i64 x.to, x.iv, x.xv], .pointer (some ⟨bl, 0, none⟩)] w (AnsN (insOk c th b j x = true) w) := by
  obtain ⟨a0, p0, a1, p1, a2, p2, a3, p3, a4, p4, e0, e1, e2, e3, e4⟩ := cd_open hc
  obtain ⟨a5, p5, e5⟩ := hb.2.1.form
  obtain ⟨a6, p6, e6⟩ := hb.2.2.form
  obtain ⟨a7, p7, e7⟩ := hx.2.1.form
  obtain ⟨a8, p8, e8⟩ := hx.2.2.form
  have C := fun W (h : Below w.heap.size w W) => instrCan_any c th j b x W (Cd.kept hc h) hs (Bd.kept hb h) hbs hbc (Ins.kept hx h) hxi hxx
  unfold Ins.val at C
  have hlt := hL.1
  rw [e0, e1, e2, e3, e4, e5, e6, e7, e8] at C
  rw [e0, e1, e2, e3, e4, e5, e6] at hL
  rw [e7, e8]
  obtain ⟨c0, c1, c2, c3, c4, c5, c6, c7, c8⟩ := nine hL
  clear e0 e1 e2 e3 e4 e5 e6 e7 e8 hc hb hx hL
  generalize insOk c th b j x = q at *
  have B0 := hid ((Below.refl w.heap.size w).alloc (Nat.le_refl _) (.cells #[.int .i64 x.op, .int .i64 x.dst, .int .i64 x.src, .int .i64 x.rc, .int .i64 x.n, .int .i64 x.to, .slice a7 x.items.length p7, .slice a8 x.index.length p8] 50))
  replace C := hid C
  go_enter Tryd.func74, Tryd.ntmps74
  go_wp2_with (go_at_call 75; refine Calls.mono (C.out _ B0.out) ?_; rintro e w1 ⟨rfl, hb1⟩)
  go_ret
  exact exN (by simp) (bover B0.out hb1)

set_option maxRecDepth 100000 in
set_option maxHeartbeats 1000000 in
theorem canBe_looker (c : Cd) (th : Int) (b : Bd) (w : World) (hc : c.okW w) (hs : SmallP c) (hb : b.okW w) (hbs : b.slots.length ≤ 1000) (hbc : b.code.length ≤ 1000) (hit : ∀ (j : Nat) (x : Ins), b.code[j]? = some x → x.items.length ≤ 1000 ∧ x.index.length ≤ 1000) :
    Calls Tryd.prog 66 #[.agg #[c.rv, c.gv, c.tv, c.ev, c.cv, .int .i64 th, b.sv, b.cv, .int .i64 b.most]] w (Ans (bdOk c th b) w) := by
  obtain ⟨a0, p0, a1, p1, a2, p2, a3, p3, a4, p4, e0, e1, e2, e3, e4⟩ := cd_open hc
  obtain ⟨a5, p5, e5⟩ := hb.2.1.form
  obtain ⟨a6, p6, e6⟩ := hb.2.2.form
  have B0 := (Below.refl w.heap.size w).alloc (Nat.le_refl _) (.cells #[c.rv, c.gv, c.tv, c.ev, c.cv, .int .i64 th, b.sv, b.cv, .int .i64 b.most] 103)
  have K := BoxAt.new w #[c.rv, c.gv, c.tv, c.ev, c.cv, .int .i64 th, b.sv, b.cv, .int .i64 b.most] 103
  have C := none49_50 b.cv b.code (fun j x => insOk c th b j x = true) (.pointer (some ⟨w.heap.size, 0, none⟩)) (w.alloc (.cells #[c.rv, c.gv, c.tv, c.ev, c.cv, .int .i64 th, b.sv, b.cv, .int .i64 b.most] 103)) (Inss.kept hb.2.2 B0) (by omega)
    (fun W j x h hx ok => insWrong_any c th j b w.heap.size x W (Cd.kept (Cd.kept hc B0) h) hs (Bd.kept (Bd.kept hb B0) h) hbs hbc ok (hit j x hx).1 (hit j x hx).2 (K.kept h))
  rw [e0, e1, e2, e3, e4, e5, e6] at C B0 ⊢
  clear e0 e1 e2 e3 e4 e5 e6 hc hb K hit hs
  replace C := hid C
  replace B0 := hid B0
  by_cases h1 : b.slots.length ≤ 64
  · have k1 := low h1
    by_cases h2 : 0 ≤ b.most
    · by_cases h3 : b.most ≤ 4096
      · by_cases h4 : 0 < b.code.length
        · have k4 : (0 : Int) < (b.code.length : Int) := by omega
          by_cases h5 : b.code.length ≤ 256
          · have k5 := low h5
            go_enter Tryd.func66, Tryd.ntmps66
            go_wp2_with (go_at_call 73; refine Calls.mono C.out ?_; rintro e w' ⟨q, rfl, hq, hb'⟩; replace hq := hid hq)
            go_ret
            refine exB ?_ (bover B0.out hb')
            rw [hq.out]
            exact ⟨fun h => ⟨h1, h2, h3, h4, h5, h⟩, fun h => h.2.2.2.2.2⟩
          · have k5 := big h5
            clear C
            go_enter Tryd.func66, Tryd.ntmps66
            go_wp2
            go_ret
            exact exNo (fun h => h5 h.2.2.2.2.1) B0.out
        · have k4 : (b.code.length : Int) ≤ 0 := by omega
          clear C
          go_enter Tryd.func66, Tryd.ntmps66
          go_wp2
          go_ret
          exact exNo (fun h => h4 h.2.2.2.1) B0.out
      · have k3 : 4096 < b.most := by omega
        clear C
        go_enter Tryd.func66, Tryd.ntmps66
        go_wp2
        go_ret
        exact exNo (fun h => by have := h.2.2.1; omega) B0.out
    · have k2 : b.most < 0 := by omega
      clear C
      go_enter Tryd.func66, Tryd.ntmps66
      go_wp2
      go_ret
      exact exNo (fun h => by have := h.2.1; omega) B0.out
  · have k1 := big h1
    clear C
    go_enter Tryd.func66, Tryd.ntmps66
    go_wp2
    go_ret
    exact exNo (fun h => h1 h.1) B0.out

set_option maxRecDepth 100000 in
set_option maxHeartbeats 1000000 in
theorem bdWrong_any (c : Cd) (j bc : Nat) (b : Bd) (w : World) (hc : c.okW w) (hs : SmallP c) (hb : b.okW w) (hbs : b.slots.length ≤ 1000) (hbc : b.code.length ≤ 1000) (hit : ∀ (j : Nat) (x : Ins), b.code[j]? = some x → x.items.length ≤ 1000 ∧ x.index.length ≤ 1000)
    (hK : BoxAt w bc [c.rv, c.gv, c.tv, c.ev, c.cv]) :
    Calls Tryd.prog 65 #[.int .i64 j, .agg #[b.sv, b.cv, .int .i64 b.most], .pointer (some ⟨bc, 0, none⟩)] w (AnsN (bdOk c j b) w) := by
  obtain ⟨a0, p0, a1, p1, a2, p2, a3, p3, a4, p4, e0, e1, e2, e3, e4⟩ := cd_open hc
  obtain ⟨a5, p5, e5⟩ := hb.2.1.form
  obtain ⟨a6, p6, e6⟩ := hb.2.2.form
  have C := fun W (h : Below w.heap.size w W) => canBe_looker c j b W (Cd.kept hc h) hs (Bd.kept hb h) hbs hbc hit
  have hlt := hK.1
  rw [e0, e1, e2, e3, e4, e5, e6] at C
  rw [e0, e1, e2, e3, e4] at hK
  rw [e5, e6]
  have c0 := hK.2 0 _ rfl
  have c1 := hK.2 1 _ rfl
  have c2 := hK.2 2 _ rfl
  have c3 := hK.2 3 _ rfl
  have c4 := hK.2 4 _ rfl
  have B0 := hid ((Below.refl w.heap.size w).alloc (Nat.le_refl _) (.cells #[.slice a5 b.slots.length p5, .slice a6 b.code.length p6, .int .i64 b.most] 40))
  clear e0 e1 e2 e3 e4 e5 e6 hc hb hK hit hs
  replace C := hid C
  go_enter Tryd.func65, Tryd.ntmps65
  go_wp2_with (go_at_call 66; refine Calls.mono (C.out _ B0.out) ?_; rintro e w' ⟨q, rfl, hq, hb'⟩; replace hq := hid hq)
  go_ret
  exact exN (by rw [← hq.out]; simp) (bover B0.out hb')

def threadsP (c : Cd) : Prop := ∀ (i : Nat) (t : Bd), c.threads[i]? = some t → bdOk c i t

set_option maxHeartbeats 1000000 in
theorem threads_any (c : Cd) (w : World) (hc : c.okW w) (hs : SmallP c) : Calls Tryd.prog 37 #[.agg #[c.rv, c.gv, c.tv, c.ev, c.cv]] w (Ans (threadsP c) w) := by
  have B0 := (Below.refl w.heap.size w).alloc (Nat.le_refl _) (.cells #[c.rv, c.gv, c.tv, c.ev, c.cv] 28)
  have K := BoxAt.new w #[c.rv, c.gv, c.tv, c.ev, c.cv] 28
  have C := none31_41 c.tv c.threads (fun j t => bdOk c j t) (.pointer (some ⟨w.heap.size, 0, none⟩)) (w.alloc (.cells #[c.rv, c.gv, c.tv, c.ev, c.cv] 28)) (Bds.kept hc.2.2.1 B0) (by have := hs.l3; omega)
    (fun W j x h hx ok => bdWrong_any c j w.heap.size x W (Cd.kept (Cd.kept hc B0) h) hs ok (hs.slots j x hx) (hs.code j x hx) (hs.items j x hx) (K.kept h))
  obtain ⟨a0, p0, a1, p1, a2, p2, a3, p3, a4, p4, e0, e1, e2, e3, e4⟩ := cd_open hc
  rw [e0, e1, e2, e3, e4] at C B0 ⊢
  clear e0 e1 e2 e3 e4 hc hs K
  replace C := hid C
  replace B0 := hid B0
  go_enter Tryd.func37, Tryd.ntmps37
  go_wp2_with (go_at_call 55; refine Calls.mono C.out ?_; rintro e w' ⟨q, rfl, hq, hb'⟩; replace hq := hid hq)
  go_ret
  exact exB hq.out (bover B0.out hb')

theorem goodP_iff (c : Cd) : GoodP c ↔ (fitsP c ∧ localsP c ∧ sectionsP c ∧ sitesP c ∧ threadsP c) :=
  ⟨fun h => ⟨⟨h.l1, h.l2, h.l3, h.l4, h.l5, h.flds⟩, ⟨h.cells1, h.cells2, h.slots⟩, h.secs, h.sites, h.ths⟩,
   fun ⟨⟨a1, a2, a3, a4, a5, a6⟩, ⟨b1, b2, b3⟩, c1, c2, c3⟩ => ⟨a1, a2, a3, a4, a5, a6, b1, b2, b3, c1, c2, c3⟩⟩

set_option maxRecDepth 100000 in
set_option maxHeartbeats 1000000 in
theorem goodC_any (c : Cd) (w : World) (hc : c.okW w) (hs : SmallP c) : Calls Tryd.prog 20 #[.agg #[c.rv, c.gv, c.tv, c.ev, c.cv]] w (Ans (GoodP c) w) := by
  have B0 := (Below.refl w.heap.size w).alloc (Nat.le_refl _) (.cells #[c.rv, c.gv, c.tv, c.ev, c.cv] 28)
  have K := BoxAt.new w #[c.rv, c.gv, c.tv, c.ev, c.cv] 28
  have D1 := fun W (h : Below w.heap.size w W) => fits_any c W (Cd.kept hc h) hs
  have D2 := fun W (h : Below w.heap.size w W) => locals_any c W (Cd.kept hc h) hs
  have D3 := fun W (h : Below w.heap.size w W) => sections_any c W (Cd.kept hc h) hs
  have D4 := fun W (h : Below w.heap.size w W) => sites_any c W (Cd.kept hc h) hs
  have D5 := fun W (h : Below w.heap.size w W) => threads_any c W (Cd.kept hc h) hs
  have F := hid (goodP_iff c)
  obtain ⟨a0, p0, a1, p1, a2, p2, a3, p3, a4, p4, e0, e1, e2, e3, e4⟩ := cd_open hc
  rw [e0, e1, e2, e3, e4] at D1 D2 D3 D4 D5 B0 K ⊢
  clear e0 e1 e2 e3 e4 hc hs
  generalize GoodP c = PP at *
  generalize fitsP c = P1 at *
  generalize localsP c = P2 at *
  generalize sectionsP c = P3 at *
  generalize sitesP c = P4 at *
  generalize threadsP c = P5 at *
  replace D1 := hid D1
  replace D2 := hid D2
  replace D3 := hid D3
  replace D4 := hid D4
  replace D5 := hid D5
  replace B0 := hid B0
  replace K := hid K
  go_enter Tryd.func20, Tryd.ntmps20
  go_wp2_with fail
  refine Calls.mono (D1.out _ B0.out) ?_
  rintro e w1 ⟨q1, rfl, hq1, hb⟩
  replace B0 := hid (bover B0.out hb)
  replace K := hid (K.out.kept hb)
  replace hq1 := hid hq1
  clear hb D1
  cases q1
  · have G : Hid (¬ PP) := hid (fun h => by have h2 := F.out.1 h; have h3 := hq1.out.2 h2.1; cases h3)
    clear hq1 K F
    go_wp2
    go_ret
    exact exNo G.out B0.out
  replace hq1 := hid (hq1.out.1 rfl)
  have v10 := K.out.2 0 _ rfl
  have v11 := K.out.2 1 _ rfl
  have v12 := K.out.2 2 _ rfl
  have v13 := K.out.2 3 _ rfl
  have v14 := K.out.2 4 _ rfl
  go_wp2_with fail
  refine Calls.mono (D2.out _ B0.out) ?_
  rintro e w2 ⟨q2, rfl, hq2, hb⟩
  replace B0 := hid (bover B0.out hb)
  replace K := hid (K.out.kept hb)
  replace hq2 := hid hq2
  clear hb D2 v10 v11 v12 v13 v14
  cases q2
  · have G : Hid (¬ PP) := hid (fun h => by have h2 := F.out.1 h; have h3 := hq2.out.2 h2.2.1; cases h3)
    clear hq2 K F
    go_wp2
    go_ret
    exact exNo G.out B0.out
  replace hq2 := hid (hq2.out.1 rfl)
  have v20 := K.out.2 0 _ rfl
  have v21 := K.out.2 1 _ rfl
  have v22 := K.out.2 2 _ rfl
  have v23 := K.out.2 3 _ rfl
  have v24 := K.out.2 4 _ rfl
  go_wp2_with fail
  refine Calls.mono (D3.out _ B0.out) ?_
  rintro e w3 ⟨q3, rfl, hq3, hb⟩
  replace B0 := hid (bover B0.out hb)
  replace K := hid (K.out.kept hb)
  replace hq3 := hid hq3
  clear hb D3 v20 v21 v22 v23 v24
  cases q3
  · have G : Hid (¬ PP) := hid (fun h => by have h2 := F.out.1 h; have h3 := hq3.out.2 h2.2.2.1; cases h3)
    clear hq3 K F
    go_wp2
    go_ret
    exact exNo G.out B0.out
  replace hq3 := hid (hq3.out.1 rfl)
  have v30 := K.out.2 0 _ rfl
  have v31 := K.out.2 1 _ rfl
  have v32 := K.out.2 2 _ rfl
  have v33 := K.out.2 3 _ rfl
  have v34 := K.out.2 4 _ rfl
  go_wp2_with fail
  refine Calls.mono (D4.out _ B0.out) ?_
  rintro e w4 ⟨q4, rfl, hq4, hb⟩
  replace B0 := hid (bover B0.out hb)
  replace K := hid (K.out.kept hb)
  replace hq4 := hid hq4
  clear hb D4 v30 v31 v32 v33 v34
  cases q4
  · have G : Hid (¬ PP) := hid (fun h => by have h2 := F.out.1 h; have h3 := hq4.out.2 h2.2.2.2.1; cases h3)
    clear hq4 K F
    go_wp2
    go_ret
    exact exNo G.out B0.out
  replace hq4 := hid (hq4.out.1 rfl)
  have v40 := K.out.2 0 _ rfl
  have v41 := K.out.2 1 _ rfl
  have v42 := K.out.2 2 _ rfl
  have v43 := K.out.2 3 _ rfl
  have v44 := K.out.2 4 _ rfl
  go_wp2_with fail
  refine Calls.mono (D5.out _ B0.out) ?_
  rintro e w5 ⟨q5, rfl, hq5, hb⟩
  replace B0 := hid (bover B0.out hb)
  replace K := hid (K.out.kept hb)
  replace hq5 := hid hq5
  clear hb D5 v40 v41 v42 v43 v44
  go_wp2
  go_ret
  exact exB (hq5.out.trans ⟨fun h => F.out.2 ⟨hq1.out, hq2.out, hq3.out, hq4.out, h⟩, fun h => (F.out.1 h).2.2.2.2⟩) B0.out
end Go.Proofs.YtkdpcaoocmbbhaaDoor
