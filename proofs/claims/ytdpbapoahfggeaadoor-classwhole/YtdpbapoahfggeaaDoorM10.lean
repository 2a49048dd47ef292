/- Look, RinB, GdC -/
import Derived.Test.YtdpbapoahfggeaaDoorAgrC
import Derived.Test.YtdpbapoahfggeaaDoorM03
import Derived.Test.YtdpbapoahfggeaaDoorRinA
import Derived.Test.YtdpbapoahfggeaaDoorM02
/- Contracts of instrCanBe, canBe and threadsCanBe. -/
namespace Go.Proofs.YtdpbapoahfggeaaDoor
open Go.ChangeShapes Go.WideShapes Go.ChangeAt Go.RowKit
set_option linter.unusedVariables false
set_option linter.unusedSimpArgs false

theorem BoxAt.seven {w : World} {b : Nat} {v0 v1 v2 v3 v4 v5 v6 : Value} (h : BoxAt w b [v0, v1, v2, v3, v4, v5, v6]) :
    w.cell? ⟨b, 0, none⟩ = some v0 ∧ w.cell? ⟨b, 1, none⟩ = some v1 ∧ w.cell? ⟨b, 2, none⟩ = some v2 ∧ w.cell? ⟨b, 3, none⟩ = some v3 ∧ w.cell? ⟨b, 4, none⟩ = some v4 ∧ w.cell? ⟨b, 5, none⟩ = some v5 ∧ w.cell? ⟨b, 6, none⟩ = some v6 :=
  ⟨h.2 0 _ rfl, h.2 1 _ rfl, h.2 2 _ rfl, h.2 3 _ rfl, h.2 4 _ rfl, h.2 5 _ rfl, h.2 6 _ rfl⟩

set_option maxRecDepth 100000 in
set_option maxHeartbeats 4000000 in
theorem instrCan_any (c : Cd) (th pl : Int) (b : Bd) (x : Ins) (w : World) (hc : c.okW w) (hs : SmallP c) (hb : b.okW w) (hbs : b.slots.length ≤ 1000) (hbc : b.code.length ≤ 1000) (hx : x.okW w) (hxi : x.items.length ≤ 1000) (hxx : x.index.length ≤ 1000) :
    Calls Tryd.prog 69 #[.agg #[c.rv, c.gv, c.tv, c.ev, c.cv, .int .i64 th, b.sv, b.cv, .int .i64 b.most], .int .i64 pl, x.val] w fun e w' => e = .returned (.bool (insOk c th b pl x)) ∧ Below w.heap.size w w' := by
  obtain ⟨a0, p0, a1, p1, a2, p2, a3, p3, a4, p4, e0, e1, e2, e3, e4⟩ := cd_open hc
  obtain ⟨a5, p5, e5⟩ := hb.2.1.form
  obtain ⟨a6, p6, e6⟩ := hb.2.2.form
  obtain ⟨a7, p7, e7⟩ := hx.2.1.form
  obtain ⟨a8, p8, e8⟩ := hx.2.2.form
  have BB := below2 w (.cells #[.slice a0 c.recs.length p0, .slice a1 c.globs.length p1, .slice a2 c.threads.length p2, .slice a3 c.sites.length p3, .slice a4 c.secs.length p4, .int .i64 th, .slice a5 b.slots.length p5, .slice a6 b.code.length p6, .int .i64 b.most] 110) (.cells #[.int .i64 x.op, .int .i64 x.dst, .int .i64 x.src, .int .i64 x.rc, .int .i64 x.n, .int .i64 x.to, .slice a7 x.items.length p7, .slice a8 x.index.length p8] 58)
  have KL := (BoxAt.new w #[.slice a0 c.recs.length p0, .slice a1 c.globs.length p1, .slice a2 c.threads.length p2, .slice a3 c.sites.length p3, .slice a4 c.secs.length p4, .int .i64 th, .slice a5 b.slots.length p5, .slice a6 b.code.length p6, .int .i64 b.most] 110).past (.cells #[.int .i64 x.op, .int .i64 x.dst, .int .i64 x.src, .int .i64 x.rc, .int .i64 x.n, .int .i64 x.to, .slice a7 x.items.length p7, .slice a8 x.index.length p8] 58)
  have KX := BoxAt.new (w.alloc (.cells #[.slice a0 c.recs.length p0, .slice a1 c.globs.length p1, .slice a2 c.threads.length p2, .slice a3 c.sites.length p3, .slice a4 c.secs.length p4, .int .i64 th, .slice a5 b.slots.length p5, .slice a6 b.code.length p6, .int .i64 b.most] 110)) #[.int .i64 x.op, .int .i64 x.dst, .int .i64 x.src, .int .i64 x.rc, .int .i64 x.n, .int .i64 x.to, .slice a7 x.items.length p7, .slice a8 x.index.length p8] 58
  simp only [World.size_alloc] at KX
  have hsec := hc.2.2.2.2
  have hit := hx.2.1
  have hix := hx.2.2
  rw [e4] at hsec
  rw [e7] at hit
  rw [e8] at hix
  have DS := fun W (h : Below w.heap.size w W) => section_any c.rv c.gv c.tv c.ev (.slice a4 c.secs.length p4) b.sv b.cv (.int .i64 b.most) c.secs th pl W (Secs.kept hsec h) (by have := hs.l5; omega)
  have DF := fun W (h : Below w.heap.size w W) => fields_any (hasD x.op) (hasS x.op) (hasR x.op) (hasN x.op) (hasT x.op) (hasI x.op) (hasX x.op) th pl b.most a0 c.recs.length p0 a1 c.globs.length p1 a2 c.threads.length p2 a3 c.sites.length p3 a4 c.secs.length p4 a5 b.slots.length p5 a6 b.code.length p6 a7 p7 a8 p8 x c.secs W (Secs.kept hsec h) (by have := hs.l5; omega) (by omega) (Items.kept hit h) (Items.kept hix h) (by omega) (by omega)
  have DA := fun (ho : isOp x.op = true) (hf : fieldsB c th b pl x = true) W (h : Below w.heap.size w W) => agrees_any c th pl b x W (Cd.kept hc h) hs (Bd.kept hb h) hbs (Ins.kept hx h) ho hf
  rw [← fieldsB_eq] at DF
  unfold Ins.val at DA ⊢
  have DH := fun W => shape_any x.op W
  unfold shapeV at DH
  have F := hid (show insOk c th b pl x = (isOp x.op && ((decide (pl = (b.code.length : Int) - 1) == (x.op == 17)) && ((!touchB x.op || decide (0 ≤ inside c.secs th pl)) && (fieldsB c th b pl x && agreesB c th b pl x)))) from rfl)
  have DT := fun W => touches_any x.op W
  rw [e0, e1, e2, e3, e5, e6] at DS
  rw [e0, e1, e2, e3, e4, e5, e6, e7, e8] at DA ⊢
  clear e0 e1 e2 e3 e4 e5 e6 e7 e8 hc hb hx hsec hit hix
  generalize hasD x.op = hD at *
  generalize hasS x.op = hS at *
  generalize hasR x.op = hR at *
  generalize hasN x.op = hN at *
  generalize hasT x.op = hT at *
  generalize hasI x.op = hI at *
  generalize hasX x.op = hX at *
  generalize hfb : fieldsB c th b pl x = r4 at *
  generalize hib : isOp x.op = r1 at *
  generalize touchB x.op = tb at *
  generalize agreesB c th b pl x = r5 at *
  generalize inside c.secs th pl = ins at *
  generalize insOk c th b pl x = rr at *
  have hl : (pl == (b.code.length : Int) - 1) = decide (pl = (b.code.length : Int) - 1) := by rw [Bool.eq_iff_iff]; simp
  rw [← hl] at F
  clear hl hfb hib
  replace DS := hid DS
  replace DF := hid DF
  replace DA := hid DA
  replace DH := hid DH
  replace DT := hid DT
  replace BB := hid BB
  replace KL := hid KL
  replace KX := hid KX
  have h1000 : (b.code.length : Int) ≤ 1000 := by omega
  go_enter Tryd.func69, Tryd.ntmps69
  go_wp2_with fail
  refine Calls.mono (DH.out _) ?_
  rintro e w1 ⟨rfl, hb1⟩
  have B1 := hid ((bover BB.out hb1).alloc (bover BB.out hb1).size (.cells #[.bool hD, .bool hS, .bool hR, .bool hN, .bool hT, .bool hI, .bool hX] 119))
  replace KL := hid ((KL.out.kept hb1).past (.cells #[.bool hD, .bool hS, .bool hR, .bool hN, .bool hT, .bool hI, .bool hX] 119))
  replace KX := hid ((KX.out.kept hb1).past (.cells #[.bool hD, .bool hS, .bool hR, .bool hN, .bool hT, .bool hI, .bool hX] 119))
  have KS := hid (BoxAt.new w1 #[.bool hD, .bool hS, .bool hR, .bool hN, .bool hT, .bool hI, .bool hX] 119)
  have hlt1 : w.heap.size < w1.heap.size := by have := hb1.size; simp only [World.size_alloc] at this; omega
  have hlt2 : w.heap.size + 1 < w1.heap.size := by have := hb1.size; simp only [World.size_alloc] at this; omega
  have G9 := (KL.out.2 7 _ rfl)
  rw [World.cell?_alloc_lt _ _ _ hlt1] at G9
  have G0 := (KX.out.2 0 _ rfl)
  rw [World.cell?_alloc_lt _ _ _ hlt2] at G0
  clear hb1 DH BB
  cases r1
  · have G : Hid (rr = false) := hid (by rw [F.out]; rfl)
    clear F DS DF DA DT KL KX KS
    go_wp2
    go_ret
    exact ⟨retB G.out.symm, B1.out⟩
  cases hl : (pl == (b.code.length : Int) - 1) <;> cases ho : (x.op == 17)
  · rw [hl, ho] at F
    replace F : Hid (rr = ((!tb || decide (0 ≤ ins)) && (r4 && r5))) := hid (by rw [F.out]; rfl)
    cases tb
    · replace F : Hid (rr = (r4 && r5)) := hid (by rw [F.out]; rfl)
      obtain ⟨⟨g0, g1, g2, g3, g4, g5, g6, g7, g8⟩, f0, f1, f2, f3, f4, f5, f6, f7⟩ := thirteen2 KL.out KX.out
      obtain ⟨s0, s1, s2, s3, s4, s5, s6⟩ := KS.out.seven
      go_wp2_with (first | (go_at_call 71; refine Calls.mono (DT.out _) ?_; rintro e w9 ⟨rfl, rfl⟩) | fail)
      clear g0 g1 g2 g3 g4 g5 g6 g7 g8 f0 f1 f2 f3 f4 f5 f6 f7 s0 s1 s2 s3 s4 s5 s6 G9 G0
      refine Calls.mono (DF.out _ B1.out) ?_
      rintro e w3 ⟨rfl, hb3⟩
      replace B1 := hid (B1.out.trans (hb3.mono B1.out.size))
      replace KL := hid (KL.out.kept hb3)
      replace KX := hid (KX.out.kept hb3)
      replace KS := hid (KS.out.kept hb3)
      clear hb3 DF
      cases r4
      · have G : Hid (rr = false) := hid (by rw [F.out]; rfl)
        clear F DA KL KX KS
        go_wp2
        go_ret
        exact ⟨retB G.out.symm, B1.out⟩
      · have G : Hid (rr = r5) := hid (by rw [F.out]; rfl)
        have DA2 := hid (DA.out (by first | trivial | rfl) (by first | trivial | rfl))
        obtain ⟨⟨g0, g1, g2, g3, g4, g5, g6, g7, g8⟩, f0, f1, f2, f3, f4, f5, f6, f7⟩ := thirteen2 KL.out KX.out
        obtain ⟨s0, s1, s2, s3, s4, s5, s6⟩ := KS.out.seven
        clear F DA KL KX KS
        go_wp2_with fail
        refine Calls.mono (DA2.out _ B1.out) ?_
        rintro e w4 ⟨rfl, hb4⟩
        replace B1 := hid (B1.out.trans (hb4.mono B1.out.size))
        clear g0 g1 g2 g3 g4 g5 g6 g7 g8 f0 f1 f2 f3 f4 f5 f6 f7 s0 s1 s2 s3 s4 s5 s6 hb4 DA2
        go_wp2
        go_ret
        exact ⟨retB G.out.symm, B1.out⟩
    · by_cases hi : 0 ≤ ins
      · replace F : Hid (rr = (r4 && r5)) := hid (by rw [F.out, decide_eq_true hi]; rfl)
        obtain ⟨⟨g0, g1, g2, g3, g4, g5, g6, g7, g8⟩, f0, f1, f2, f3, f4, f5, f6, f7⟩ := thirteen2 KL.out KX.out
        obtain ⟨s0, s1, s2, s3, s4, s5, s6⟩ := KS.out.seven
        go_wp2_with (first | (go_at_call 71; refine Calls.mono (DT.out _) ?_; rintro e w9 ⟨rfl, rfl⟩) | fail)
        refine Calls.mono (DS.out _ B1.out) ?_
        rintro e w2 ⟨rfl, hb2⟩
        replace B1 := hid (B1.out.trans (hb2.mono B1.out.size))
        replace KL := hid (KL.out.kept hb2)
        replace KX := hid (KX.out.kept hb2)
        replace KS := hid (KS.out.kept hb2)
        clear g0 g1 g2 g3 g4 g5 g6 g7 g8 f0 f1 f2 f3 f4 f5 f6 f7 s0 s1 s2 s3 s4 s5 s6 G9 G0 hb2 DS DT
        obtain ⟨⟨g0, g1, g2, g3, g4, g5, g6, g7, g8⟩, f0, f1, f2, f3, f4, f5, f6, f7⟩ := thirteen2 KL.out KX.out
        obtain ⟨s0, s1, s2, s3, s4, s5, s6⟩ := KS.out.seven
        go_wp2_with fail
        clear g0 g1 g2 g3 g4 g5 g6 g7 g8 f0 f1 f2 f3 f4 f5 f6 f7 s0 s1 s2 s3 s4 s5 s6
        refine Calls.mono (DF.out _ B1.out) ?_
        rintro e w3 ⟨rfl, hb3⟩
        replace B1 := hid (B1.out.trans (hb3.mono B1.out.size))
        replace KL := hid (KL.out.kept hb3)
        replace KX := hid (KX.out.kept hb3)
        replace KS := hid (KS.out.kept hb3)
        clear hb3 DF
        cases r4
        · have G : Hid (rr = false) := hid (by rw [F.out]; rfl)
          clear F DA KL KX KS
          go_wp2
          go_ret
          exact ⟨retB G.out.symm, B1.out⟩
        · have G : Hid (rr = r5) := hid (by rw [F.out]; rfl)
          have DA2 := hid (DA.out (by first | trivial | rfl) (by first | trivial | rfl))
          obtain ⟨⟨g0, g1, g2, g3, g4, g5, g6, g7, g8⟩, f0, f1, f2, f3, f4, f5, f6, f7⟩ := thirteen2 KL.out KX.out
          obtain ⟨s0, s1, s2, s3, s4, s5, s6⟩ := KS.out.seven
          clear F DA KL KX KS
          go_wp2_with fail
          refine Calls.mono (DA2.out _ B1.out) ?_
          rintro e w4 ⟨rfl, hb4⟩
          replace B1 := hid (B1.out.trans (hb4.mono B1.out.size))
          clear g0 g1 g2 g3 g4 g5 g6 g7 g8 f0 f1 f2 f3 f4 f5 f6 f7 s0 s1 s2 s3 s4 s5 s6 hb4 DA2
          go_wp2
          go_ret
          exact ⟨retB G.out.symm, B1.out⟩
      · have G : Hid (rr = false) := hid (by rw [F.out, decide_eq_false hi]; rfl)
        obtain ⟨⟨g0, g1, g2, g3, g4, g5, g6, g7, g8⟩, f0, f1, f2, f3, f4, f5, f6, f7⟩ := thirteen2 KL.out KX.out
        obtain ⟨s0, s1, s2, s3, s4, s5, s6⟩ := KS.out.seven
        clear F DF DA KL KX KS
        go_wp2_with (first | (go_at_call 71; refine Calls.mono (DT.out _) ?_; rintro e w9 ⟨rfl, rfl⟩) | (go_at_call 72; refine Calls.mono (DS.out _ B1.out) ?_; rintro e w2 ⟨rfl, hb2⟩))
        go_ret
        exact ⟨retB G.out.symm, B1.out.trans (hb2.mono B1.out.size)⟩
  · rw [hl, ho] at F
    have G : Hid (rr = false) := hid (by rw [F.out]; rfl)
    clear F DS DF DA KL KX KS
    go_wp2_with (go_at_call 71; refine Calls.mono (DT.out _) ?_; rintro e w9 ⟨rfl, rfl⟩)
    go_ret
    exact ⟨retB G.out.symm, B1.out⟩
  · rw [hl, ho] at F
    have G : Hid (rr = false) := hid (by rw [F.out]; rfl)
    clear F DS DF DA KL KX KS
    go_wp2_with (go_at_call 71; refine Calls.mono (DT.out _) ?_; rintro e w9 ⟨rfl, rfl⟩)
    go_ret
    exact ⟨retB G.out.symm, B1.out⟩
  · rw [hl, ho] at F
    replace F : Hid (rr = ((!tb || decide (0 ≤ ins)) && (r4 && r5))) := hid (by rw [F.out]; rfl)
    cases tb
    · replace F : Hid (rr = (r4 && r5)) := hid (by rw [F.out]; rfl)
      obtain ⟨⟨g0, g1, g2, g3, g4, g5, g6, g7, g8⟩, f0, f1, f2, f3, f4, f5, f6, f7⟩ := thirteen2 KL.out KX.out
      obtain ⟨s0, s1, s2, s3, s4, s5, s6⟩ := KS.out.seven
      go_wp2_with (first | (go_at_call 71; refine Calls.mono (DT.out _) ?_; rintro e w9 ⟨rfl, rfl⟩) | fail)
      clear g0 g1 g2 g3 g4 g5 g6 g7 g8 f0 f1 f2 f3 f4 f5 f6 f7 s0 s1 s2 s3 s4 s5 s6 G9 G0
      refine Calls.mono (DF.out _ B1.out) ?_
      rintro e w3 ⟨rfl, hb3⟩
      replace B1 := hid (B1.out.trans (hb3.mono B1.out.size))
      replace KL := hid (KL.out.kept hb3)
      replace KX := hid (KX.out.kept hb3)
      replace KS := hid (KS.out.kept hb3)
      clear hb3 DF
      cases r4
      · have G : Hid (rr = false) := hid (by rw [F.out]; rfl)
        clear F DA KL KX KS
        go_wp2
        go_ret
        exact ⟨retB G.out.symm, B1.out⟩
      · have G : Hid (rr = r5) := hid (by rw [F.out]; rfl)
        have DA2 := hid (DA.out (by first | trivial | rfl) (by first | trivial | rfl))
        obtain ⟨⟨g0, g1, g2, g3, g4, g5, g6, g7, g8⟩, f0, f1, f2, f3, f4, f5, f6, f7⟩ := thirteen2 KL.out KX.out
        obtain ⟨s0, s1, s2, s3, s4, s5, s6⟩ := KS.out.seven
        clear F DA KL KX KS
        go_wp2_with fail
        refine Calls.mono (DA2.out _ B1.out) ?_
        rintro e w4 ⟨rfl, hb4⟩
        replace B1 := hid (B1.out.trans (hb4.mono B1.out.size))
        clear g0 g1 g2 g3 g4 g5 g6 g7 g8 f0 f1 f2 f3 f4 f5 f6 f7 s0 s1 s2 s3 s4 s5 s6 hb4 DA2
        go_wp2
        go_ret
        exact ⟨retB G.out.symm, B1.out⟩
    · by_cases hi : 0 ≤ ins
      · replace F : Hid (rr = (r4 && r5)) := hid (by rw [F.out, decide_eq_true hi]; rfl)
        obtain ⟨⟨g0, g1, g2, g3, g4, g5, g6, g7, g8⟩, f0, f1, f2, f3, f4, f5, f6, f7⟩ := thirteen2 KL.out KX.out
        obtain ⟨s0, s1, s2, s3, s4, s5, s6⟩ := KS.out.seven
        go_wp2_with (first | (go_at_call 71; refine Calls.mono (DT.out _) ?_; rintro e w9 ⟨rfl, rfl⟩) | fail)
        refine Calls.mono (DS.out _ B1.out) ?_
        rintro e w2 ⟨rfl, hb2⟩
        replace B1 := hid (B1.out.trans (hb2.mono B1.out.size))
        replace KL := hid (KL.out.kept hb2)
        replace KX := hid (KX.out.kept hb2)
        replace KS := hid (KS.out.kept hb2)
        clear g0 g1 g2 g3 g4 g5 g6 g7 g8 f0 f1 f2 f3 f4 f5 f6 f7 s0 s1 s2 s3 s4 s5 s6 G9 G0 hb2 DS DT
        obtain ⟨⟨g0, g1, g2, g3, g4, g5, g6, g7, g8⟩, f0, f1, f2, f3, f4, f5, f6, f7⟩ := thirteen2 KL.out KX.out
        obtain ⟨s0, s1, s2, s3, s4, s5, s6⟩ := KS.out.seven
        go_wp2_with fail
        clear g0 g1 g2 g3 g4 g5 g6 g7 g8 f0 f1 f2 f3 f4 f5 f6 f7 s0 s1 s2 s3 s4 s5 s6
        refine Calls.mono (DF.out _ B1.out) ?_
        rintro e w3 ⟨rfl, hb3⟩
        replace B1 := hid (B1.out.trans (hb3.mono B1.out.size))
        replace KL := hid (KL.out.kept hb3)
        replace KX := hid (KX.out.kept hb3)
        replace KS := hid (KS.out.kept hb3)
        clear hb3 DF
        cases r4
        · have G : Hid (rr = false) := hid (by rw [F.out]; rfl)
          clear F DA KL KX KS
          go_wp2
          go_ret
          exact ⟨retB G.out.symm, B1.out⟩
        · have G : Hid (rr = r5) := hid (by rw [F.out]; rfl)
          have DA2 := hid (DA.out (by first | trivial | rfl) (by first | trivial | rfl))
          obtain ⟨⟨g0, g1, g2, g3, g4, g5, g6, g7, g8⟩, f0, f1, f2, f3, f4, f5, f6, f7⟩ := thirteen2 KL.out KX.out
          obtain ⟨s0, s1, s2, s3, s4, s5, s6⟩ := KS.out.seven
          clear F DA KL KX KS
          go_wp2_with fail
          refine Calls.mono (DA2.out _ B1.out) ?_
          rintro e w4 ⟨rfl, hb4⟩
          replace B1 := hid (B1.out.trans (hb4.mono B1.out.size))
          clear g0 g1 g2 g3 g4 g5 g6 g7 g8 f0 f1 f2 f3 f4 f5 f6 f7 s0 s1 s2 s3 s4 s5 s6 hb4 DA2
          go_wp2
          go_ret
          exact ⟨retB G.out.symm, B1.out⟩
      · have G : Hid (rr = false) := hid (by rw [F.out, decide_eq_false hi]; rfl)
        obtain ⟨⟨g0, g1, g2, g3, g4, g5, g6, g7, g8⟩, f0, f1, f2, f3, f4, f5, f6, f7⟩ := thirteen2 KL.out KX.out
        obtain ⟨s0, s1, s2, s3, s4, s5, s6⟩ := KS.out.seven
        clear F DF DA KL KX KS
        go_wp2_with (first | (go_at_call 71; refine Calls.mono (DT.out _) ?_; rintro e w9 ⟨rfl, rfl⟩) | (go_at_call 72; refine Calls.mono (DS.out _ B1.out) ?_; rintro e w2 ⟨rfl, hb2⟩))
        go_ret
        exact ⟨retB G.out.symm, B1.out.trans (hb2.mono B1.out.size)⟩
end Go.Proofs.YtdpbapoahfggeaaDoor
/- The document's instr: its tests as plain mathematics. -/
namespace Go.Proofs.YtdpbapoahfggeaaDoor
open Go.ChangeShapes Go.WideShapes Go.ChangeAt Go.RowKit
set_option linter.unusedVariables false

theorem quietB {w w1 : World} (h : Below w.heap.size w w1) (n : Nat) : Below w.heap.size w (w1.drewN n) := below_drewN h n
theorem bel2 {w W : World} (h : Below w.heap.size w W) (o1 o2 : Obj) : Below w.heap.size w ((W.alloc o1).alloc o2) := (h.alloc h.size o1).alloc (by have := h.size; simp only [World.size_alloc]; omega) o2
theorem three0 {w : World} {b : Nat} {v0 v1 v2 : Value} (h : BoxAt w b [v0, v1, v2]) : w.cell? ⟨b, 0, none⟩ = some v0 ∧ w.cell? ⟨b, 1, none⟩ = some v1 ∧ w.cell? ⟨b, 2, none⟩ = some v2 := ⟨h.2 0 _ rfl, h.2 1 _ rfl, h.2 2 _ rfl⟩
theorem five0 {w : World} {b : Nat} {v0 v1 v2 v3 v4 : Value} (h : BoxAt w b [v0, v1, v2, v3, v4]) :
    w.cell? ⟨b, 0, none⟩ = some v0 ∧ w.cell? ⟨b, 1, none⟩ = some v1 ∧ w.cell? ⟨b, 2, none⟩ = some v2 ∧ w.cell? ⟨b, 3, none⟩ = some v3 ∧ w.cell? ⟨b, 4, none⟩ = some v4 :=
  ⟨h.2 0 _ rfl, h.2 1 _ rfl, h.2 2 _ rfl, h.2 3 _ rfl, h.2 4 _ rfl⟩
theorem eight {w : World} {b : Nat} {v0 v1 v2 v3 v4 v5 v6 v7 : Value} (h : BoxAt w b [v0, v1, v2, v3, v4, v5, v6, v7]) :
    w.cell? ⟨b, 0, none⟩ = some v0 ∧ w.cell? ⟨b, 1, none⟩ = some v1 ∧ w.cell? ⟨b, 2, none⟩ = some v2 ∧ w.cell? ⟨b, 3, none⟩ = some v3 ∧ w.cell? ⟨b, 4, none⟩ = some v4 ∧ w.cell? ⟨b, 5, none⟩ = some v5 ∧ w.cell? ⟨b, 6, none⟩ = some v6 ∧ w.cell? ⟨b, 7, none⟩ = some v7 :=
  ⟨h.2 0 _ rfl, h.2 1 _ rfl, h.2 2 _ rfl, h.2 3 _ rfl, h.2 4 _ rfl, h.2 5 _ rfl, h.2 6 _ rfl, h.2 7 _ rfl⟩

theorem GoodSays.mono {w w1 : World} {v : Value} {m : Int} {q : Bool} (h : GoodSays w v m q) (k : Below w.heap.size w w1) : GoodSays w1 v m q := fun W hb => h W (bover k hb)

theorem s16 {w : World} {bc bb bx : Nat} {c0 c1 c2 c3 c4 b0 b1 b2 f0 f1 f2 f3 f4 f5 f6 f7 : Value} (hc : BoxAt w bc [c0, c1, c2, c3, c4]) (hb : BoxAt w bb [b0, b1, b2]) (hx : BoxAt w bx [f0, f1, f2, f3, f4, f5, f6, f7]) :
    (w.cell? ⟨bc, 0, none⟩ = some c0 ∧ w.cell? ⟨bc, 1, none⟩ = some c1 ∧ w.cell? ⟨bc, 2, none⟩ = some c2 ∧ w.cell? ⟨bc, 3, none⟩ = some c3 ∧ w.cell? ⟨bc, 4, none⟩ = some c4) ∧
    (w.cell? ⟨bb, 0, none⟩ = some b0 ∧ w.cell? ⟨bb, 1, none⟩ = some b1 ∧ w.cell? ⟨bb, 2, none⟩ = some b2) ∧
    (w.cell? ⟨bx, 0, none⟩ = some f0 ∧ w.cell? ⟨bx, 1, none⟩ = some f1 ∧ w.cell? ⟨bx, 2, none⟩ = some f2 ∧ w.cell? ⟨bx, 3, none⟩ = some f3 ∧ w.cell? ⟨bx, 4, none⟩ = some f4 ∧ w.cell? ⟨bx, 5, none⟩ = some f5 ∧ w.cell? ⟨bx, 6, none⟩ = some f6 ∧ w.cell? ⟨bx, 7, none⟩ = some f7) := ⟨five0 hc, three0 hb, eight hx⟩

/-- The first test: a field that isn't named isn't nought. -/
def tA (x : Ins) : Bool := (((((((false || ((!hasD x.op) && (x.dst != 0))) || ((!hasS x.op) && (x.src != 0))) || ((!hasR x.op) && (x.rc != 0))) || ((!hasN x.op) && (x.n != 0))) || ((!hasT x.op) && (x.to != 0))) || ((!hasI x.op) && (decide (0 < (x.items.length : Int))))) || ((!hasX x.op) && (decide (0 < (x.index.length : Int)))))
/-- The second one: a place that is none, an expression that can't be. -/
def tB (c : Cd) (b : Bd) (x : Ins) : Bool := (((((hasD x.op && (!isIn x.dst b.slots.length)) || (hasS x.op && (!isIn x.src b.slots.length))) || (hasI x.op && (!goodB b.slots.length x.items))) || (hasX x.op && (!goodB b.slots.length x.index))) || (hasR x.op && (!isIn x.rc c.recs.length)))
theorem tB_d {c : Cd} {b : Bd} {x : Ins} (h : tB c b x = false) (k : hasD x.op = true) : isIn x.dst b.slots.length = true := by
  cases q : isIn x.dst b.slots.length
  · simp [tB, k, q] at h
  · rfl
theorem tB_s {c : Cd} {b : Bd} {x : Ins} (h : tB c b x = false) (k : hasS x.op = true) : isIn x.src b.slots.length = true := by
  cases q : isIn x.src b.slots.length
  · simp [tB, k, q] at h
  · rfl
theorem tB_r {c : Cd} {b : Bd} {x : Ins} (h : tB c b x = false) (k : hasR x.op = true) : isIn x.rc c.recs.length = true := by
  cases q : isIn x.rc c.recs.length
  · simp [tB, k, q] at h
  · rfl
/-- The third one: where it goes on. -/
def tC (c : Cd) (th : Int) (b : Bd) (pl : Int) (x : Ins) : Bool := hasT x.op && (!tgtB c.secs th b.code.length pl x.to)
/-- The fourth one: what is shared. -/
def tD (c : Cd) (th pl : Int) (x : Ins) : Bool := touchB x.op && decide (inside c.secs th pl < 0)
/-- The fifth one: the end. -/
def tE (b : Bd) (pl : Int) (x : Ins) : Bool := (x.op == 17) != (pl == (b.code.length : Int) - 1)
def insF (c : Cd) (th : Int) (b : Bd) (pl : Int) (x : Ins) : Bool := isOp x.op && ((!tA x) && ((!tB c b x) && ((!tC c th b pl x) && ((!tD c th pl x) && ((!tE b pl x) && agreesB c th b pl x)))))

theorem insOk_eq (c : Cd) (th : Int) (b : Bd) (pl : Int) (x : Ins) : insOk c th b pl x = insF c th b pl x := by
  have e1 : (decide (pl = (b.code.length : Int) - 1) == (x.op == 17)) = !tE b pl x := by
    unfold tE
    have : (pl == (b.code.length : Int) - 1) = decide (pl = (b.code.length : Int) - 1) := by rw [Bool.eq_iff_iff]; simp
    rw [this]
    cases decide (pl = (b.code.length : Int) - 1) <;> cases (x.op == 17) <;> rfl
  have e2 : (!touchB x.op || decide (0 ≤ inside c.secs th pl)) = !tD c th pl x := by
    unfold tD
    have : decide (0 ≤ inside c.secs th pl) = !decide (inside c.secs th pl < 0) := by
      by_cases h : inside c.secs th pl < 0
      · rw [decide_eq_true h, decide_eq_false (by omega)]; rfl
      · rw [decide_eq_false h, decide_eq_true (by omega)]; rfl
    rw [this]
    cases touchB x.op <;> cases decide (inside c.secs th pl < 0) <;> rfl
  have z (m : Int) : (m != 0) = !(m == 0) := rfl
  have y (m : Nat) : decide (0 < (m : Int)) = !decide (m = 0) := by
    by_cases h : m = 0
    · subst h; rfl
    · rw [decide_eq_true (show 0 < (m : Int) by omega), decide_eq_false h]; rfl
  have e3 : fieldsB c th b pl x = ((!tA x) && ((!tB c b x) && (!tC c th b pl x))) := by
    unfold fieldsB tA tB tC fld
    rw [z, z, z, z, z, y, y]
    generalize hasD x.op = q1
    generalize hasS x.op = q2
    generalize hasR x.op = q3
    generalize hasN x.op = q4
    generalize hasT x.op = q5
    generalize hasI x.op = q6
    generalize hasX x.op = q7
    generalize isIn x.dst b.slots.length = r1
    generalize isIn x.src b.slots.length = r2
    generalize isIn x.rc c.recs.length = r3
    generalize goodB b.slots.length x.items = r4
    generalize goodB b.slots.length x.index = r5
    generalize tgtB c.secs th b.code.length pl x.to = r6
    generalize (x.dst == 0) = z1
    generalize (x.src == 0) = z2
    generalize (x.rc == 0) = z3
    generalize (x.n == 0) = z4
    generalize (x.to == 0) = z5
    generalize decide (x.items.length = 0) = z6
    generalize decide (x.index.length = 0) = z7
    rw [Bool.eq_iff_iff]
    simp only [Bool.and_eq_true, Bool.not_eq_true', Bool.or_eq_false_iff, Bool.and_eq_false_iff, Bool.or_eq_true]
    cases q1 <;> cases q2 <;> cases q3 <;> cases q4 <;> cases q5 <;> cases q6 <;> cases q7 <;> simp
    all_goals (intros; constructor <;> intro h <;> simp [h])
  unfold insOk insF
  rw [e1, e2, e3]
  generalize tA x = q1
  generalize tB c b x = q2
  generalize tC c th b pl x = q3
  generalize tD c th pl x = q4
  generalize tE b pl x = q5
  generalize agreesB c th b pl x = q6
  generalize isOp x.op = q7
  cases q1 <;> cases q2 <;> cases q3 <;> cases q4 <;> cases q5 <;> cases q6 <;> cases q7 <;> rfl

theorem ibeq (a b : Int) : (a == b) = (b == a) := by
  by_cases h : a = b
  · subst h; rfl
  · rw [beq_eq_false_iff_ne.2 h, beq_eq_false_iff_ne.2 (Ne.symm h)]
theorem ibne (a b : Int) : (a != b) = !(a == b) := rfl
/-- A slot of a kind without records names none. -/
theorem holds_plain {nr : Nat} {b : Bd} {k : Nat} {s : Loc} {q : Int} (h : locOk nr s = true) (hk : b.slots[k]? = some s) (hq : q = 1 ∨ q = 3) : holdsB b (k : Int) q 0 = (s.kind == q) := by
  have e : (b.slots.getD (k : Int).toNat Loc.z) = s := by simp [List.getD, hk]
  unfold holdsB
  rw [e]
  cases e2 : (s.kind == q)
  · rfl
  · have e3 : s.kind = q := by simpa using e2
    unfold locOk at h
    rw [e3] at h
    rcases hq with rfl | rfl <;> simpa using h
theorem holds_at {b : Bd} {k : Nat} {s : Loc} {q r : Int} (hk : b.slots[k]? = some s) : holdsB b (k : Int) q r = (s.kind == q && s.rc == r) := by
  have e : (b.slots.getD (k : Int).toNat Loc.z) = s := by simp [List.getD, hk]
  unfold holdsB
  rw [e]
end Go.Proofs.YtdpbapoahfggeaaDoor
/- Contract of code's Good: whether a code can be. -/
namespace Go.Proofs.YtdpbapoahfggeaaDoor
open Go.ChangeShapes Go.WideShapes Go.ChangeAt Go.RowKit
set_option linter.unusedVariables false
set_option linter.unusedSimpArgs false

set_option maxRecDepth 100000 in
set_option maxHeartbeats 1000000 in
theorem insWrong_any (c : Cd) (th j : Int) (b : Bd) (bl : Nat) (x : Ins) (w : World) (hc : c.okW w) (hs : SmallP c) (hb : b.okW w) (hbs : b.slots.length ≤ 1000) (hbc : b.code.length ≤ 1000) (hx : x.okW w) (hxi : x.items.length ≤ 1000) (hxx : x.index.length ≤ 1000)
    (hL : BoxAt w bl [c.rv, c.gv, c.tv, c.ev, c.cv, .int .i64 th, b.sv, b.cv, .int .i64 b.most]) :
    Calls Tryd.prog 68 #[.int .i64 j, .agg #[.int .i64 x.op, .int .i64 x.dst, .int .i64 x.src, .int .i64 x.rc, .int .i64 x.n, .int .i64 x.to, x.iv, x.xv], .pointer (some ⟨bl, 0, none⟩)] w (AnsN (insOk c th b j x = true) w) := by
  obtain ⟨a0, p0, a1, p1, a2, p2, a3, p3, a4, p4, e0, e1, e2, e3, e4⟩ := cd_open hc
  obtain ⟨a5, p5, e5⟩ := hb.2.1.form
  obtain ⟨a6, p6, e6⟩ := hb.2.2.form
  obtain ⟨a7, p7, e7⟩ := hx.2.1.form
  obtain ⟨a8, p8, e8⟩ := hx.2.2.form
  have C := fun W (h : Below w.heap.size w W) => instrCan_any c th j b x W (Cd.kept hc h) hs (Bd.kept hb h) hbs hbc (Ins.kept hx h) hxi hxx
  unfold Ins.val at C
  have hlt := hL.1
  rw [e0, e1, e2, e3, e4, e5, e6, e7, e8] at C
  rw [e0, e1, e2, e3, e4, e5, e6] at hL
  rw [e7, e8]
  obtain ⟨c0, c1, c2, c3, c4, c5, c6, c7, c8⟩ := nine hL
  clear e0 e1 e2 e3 e4 e5 e6 e7 e8 hc hb hx hL
  generalize insOk c th b j x = q at *
  have B0 := hid ((Below.refl w.heap.size w).alloc (Nat.le_refl _) (.cells #[.int .i64 x.op, .int .i64 x.dst, .int .i64 x.src, .int .i64 x.rc, .int .i64 x.n, .int .i64 x.to, .slice a7 x.items.length p7, .slice a8 x.index.length p8] 58))
  replace C := hid C
  go_enter Tryd.func68, Tryd.ntmps68
  go_wp2_with (go_at_call 69; refine Calls.mono (C.out _ B0.out) ?_; rintro e w1 ⟨rfl, hb1⟩)
  go_ret
  exact exN (by simp) (bover B0.out hb1)

set_option maxRecDepth 100000 in
set_option maxHeartbeats 1000000 in
theorem canBe_looker (c : Cd) (th : Int) (b : Bd) (w : World) (hc : c.okW w) (hs : SmallP c) (hb : b.okW w) (hbs : b.slots.length ≤ 1000) (hbc : b.code.length ≤ 1000) (hit : ∀ (j : Nat) (x : Ins), b.code[j]? = some x → x.items.length ≤ 1000 ∧ x.index.length ≤ 1000) :
    Calls Tryd.prog 61 #[.agg #[c.rv, c.gv, c.tv, c.ev, c.cv, .int .i64 th, b.sv, b.cv, .int .i64 b.most]] w (Ans (bdOk c th b) w) := by
  obtain ⟨a0, p0, a1, p1, a2, p2, a3, p3, a4, p4, e0, e1, e2, e3, e4⟩ := cd_open hc
  obtain ⟨a5, p5, e5⟩ := hb.2.1.form
  obtain ⟨a6, p6, e6⟩ := hb.2.2.form
  have B0 := (Below.refl w.heap.size w).alloc (Nat.le_refl _) (.cells #[c.rv, c.gv, c.tv, c.ev, c.cv, .int .i64 th, b.sv, b.cv, .int .i64 b.most] 110)
  have K := BoxAt.new w #[c.rv, c.gv, c.tv, c.ev, c.cv, .int .i64 th, b.sv, b.cv, .int .i64 b.most] 110
  have C := none49_50 b.cv b.code (fun j x => insOk c th b j x = true) (.pointer (some ⟨w.heap.size, 0, none⟩)) (w.alloc (.cells #[c.rv, c.gv, c.tv, c.ev, c.cv, .int .i64 th, b.sv, b.cv, .int .i64 b.most] 110)) (Inss.kept hb.2.2 B0) (by omega)
    (fun W j x h hx ok => insWrong_any c th j b w.heap.size x W (Cd.kept (Cd.kept hc B0) h) hs (Bd.kept (Bd.kept hb B0) h) hbs hbc ok (hit j x hx).1 (hit j x hx).2 (K.kept h))
  rw [e0, e1, e2, e3, e4, e5, e6] at C B0 ⊢
  clear e0 e1 e2 e3 e4 e5 e6 hc hb K hit hs
  replace C := hid C
  replace B0 := hid B0
  by_cases h1 : b.slots.length ≤ 64
  · have k1 := low h1
    by_cases h2 : 0 ≤ b.most
    · by_cases h3 : b.most ≤ 4096
      · by_cases h4 : 0 < b.code.length
        · have k4 : (0 : Int) < (b.code.length : Int) := by omega
          by_cases h5 : b.code.length ≤ 256
          · have k5 := low h5
            go_enter Tryd.func61, Tryd.ntmps61
            go_wp2_with (go_at_call 67; refine Calls.mono C.out ?_; rintro e w' ⟨q, rfl, hq, hb'⟩; replace hq := hid hq)
            go_ret
            refine exB ?_ (bover B0.out hb')
            rw [hq.out]
            exact ⟨fun h => ⟨h1, h2, h3, h4, h5, h⟩, fun h => h.2.2.2.2.2⟩
          · have k5 := big h5
            clear C
            go_enter Tryd.func61, Tryd.ntmps61
            go_wp2
            go_ret
            exact exNo (fun h => h5 h.2.2.2.2.1) B0.out
        · have k4 : (b.code.length : Int) ≤ 0 := by omega
          clear C
          go_enter Tryd.func61, Tryd.ntmps61
          go_wp2
          go_ret
          exact exNo (fun h => h4 h.2.2.2.1) B0.out
      · have k3 : 4096 < b.most := by omega
        clear C
        go_enter Tryd.func61, Tryd.ntmps61
        go_wp2
        go_ret
        exact exNo (fun h => by have := h.2.2.1; omega) B0.out
    · have k2 : b.most < 0 := by omega
      clear C
      go_enter Tryd.func61, Tryd.ntmps61
      go_wp2
      go_ret
      exact exNo (fun h => by have := h.2.1; omega) B0.out
  · have k1 := big h1
    clear C
    go_enter Tryd.func61, Tryd.ntmps61
    go_wp2
    go_ret
    exact exNo (fun h => h1 h.1) B0.out

set_option maxRecDepth 100000 in
set_option maxHeartbeats 1000000 in
theorem bdWrong_any (c : Cd) (j bc : Nat) (b : Bd) (w : World) (hc : c.okW w) (hs : SmallP c) (hb : b.okW w) (hbs : b.slots.length ≤ 1000) (hbc : b.code.length ≤ 1000) (hit : ∀ (j : Nat) (x : Ins), b.code[j]? = some x → x.items.length ≤ 1000 ∧ x.index.length ≤ 1000)
    (hK : BoxAt w bc [c.rv, c.gv, c.tv, c.ev, c.cv]) :
    Calls Tryd.prog 60 #[.int .i64 j, .agg #[b.sv, b.cv, .int .i64 b.most], .pointer (some ⟨bc, 0, none⟩)] w (AnsN (bdOk c j b) w) := by
  obtain ⟨a0, p0, a1, p1, a2, p2, a3, p3, a4, p4, e0, e1, e2, e3, e4⟩ := cd_open hc
  obtain ⟨a5, p5, e5⟩ := hb.2.1.form
  obtain ⟨a6, p6, e6⟩ := hb.2.2.form
  have C := fun W (h : Below w.heap.size w W) => canBe_looker c j b W (Cd.kept hc h) hs (Bd.kept hb h) hbs hbc hit
  have hlt := hK.1
  rw [e0, e1, e2, e3, e4, e5, e6] at C
  rw [e0, e1, e2, e3, e4] at hK
  rw [e5, e6]
  have c0 := hK.2 0 _ rfl
  have c1 := hK.2 1 _ rfl
  have c2 := hK.2 2 _ rfl
  have c3 := hK.2 3 _ rfl
  have c4 := hK.2 4 _ rfl
  have B0 := hid ((Below.refl w.heap.size w).alloc (Nat.le_refl _) (.cells #[.slice a5 b.slots.length p5, .slice a6 b.code.length p6, .int .i64 b.most] 55))
  clear e0 e1 e2 e3 e4 e5 e6 hc hb hK hit hs
  replace C := hid C
  go_enter Tryd.func60, Tryd.ntmps60
  go_wp2_with (go_at_call 61; refine Calls.mono (C.out _ B0.out) ?_; rintro e w' ⟨q, rfl, hq, hb'⟩; replace hq := hid hq)
  go_ret
  exact exN (by rw [← hq.out]; simp) (bover B0.out hb')

def threadsP (c : Cd) : Prop := ∀ (i : Nat) (t : Bd), c.threads[i]? = some t → bdOk c i t

set_option maxHeartbeats 1000000 in
theorem threads_any (c : Cd) (w : World) (hc : c.okW w) (hs : SmallP c) : Calls Tryd.prog 37 #[.agg #[c.rv, c.gv, c.tv, c.ev, c.cv]] w (Ans (threadsP c) w) := by
  have B0 := (Below.refl w.heap.size w).alloc (Nat.le_refl _) (.cells #[c.rv, c.gv, c.tv, c.ev, c.cv] 41)
  have K := BoxAt.new w #[c.rv, c.gv, c.tv, c.ev, c.cv] 41
  have C := none31_41 c.tv c.threads (fun j t => bdOk c j t) (.pointer (some ⟨w.heap.size, 0, none⟩)) (w.alloc (.cells #[c.rv, c.gv, c.tv, c.ev, c.cv] 41)) (Bds.kept hc.2.2.1 B0) (by have := hs.l3; omega)
    (fun W j x h hx ok => bdWrong_any c j w.heap.size x W (Cd.kept (Cd.kept hc B0) h) hs ok (hs.slots j x hx) (hs.code j x hx) (hs.items j x hx) (K.kept h))
  obtain ⟨a0, p0, a1, p1, a2, p2, a3, p3, a4, p4, e0, e1, e2, e3, e4⟩ := cd_open hc
  rw [e0, e1, e2, e3, e4] at C B0 ⊢
  clear e0 e1 e2 e3 e4 hc hs K
  replace C := hid C
  replace B0 := hid B0
  go_enter Tryd.func37, Tryd.ntmps37
  go_wp2_with (go_at_call 50; refine Calls.mono C.out ?_; rintro e w' ⟨q, rfl, hq, hb'⟩; replace hq := hid hq)
  go_ret
  exact exB hq.out (bover B0.out hb')

theorem goodP_iff (c : Cd) : GoodP c ↔ (fitsP c ∧ localsP c ∧ sectionsP c ∧ sitesP c ∧ threadsP c) :=
  ⟨fun h => ⟨⟨h.l1, h.l2, h.l3, h.l4, h.l5, h.flds⟩, ⟨h.cells1, h.cells2, h.slots⟩, h.secs, h.sites, h.ths⟩,
   fun ⟨⟨a1, a2, a3, a4, a5, a6⟩, ⟨b1, b2, b3⟩, c1, c2, c3⟩ => ⟨a1, a2, a3, a4, a5, a6, b1, b2, b3, c1, c2, c3⟩⟩

set_option maxRecDepth 100000 in
set_option maxHeartbeats 1000000 in
theorem goodC_any (c : Cd) (w : World) (hc : c.okW w) (hs : SmallP c) : Calls Tryd.prog 22 #[.agg #[c.rv, c.gv, c.tv, c.ev, c.cv]] w (Ans (GoodP c) w) := by
  have B0 := (Below.refl w.heap.size w).alloc (Nat.le_refl _) (.cells #[c.rv, c.gv, c.tv, c.ev, c.cv] 41)
  have K := BoxAt.new w #[c.rv, c.gv, c.tv, c.ev, c.cv] 41
  have D1 := fun W (h : Below w.heap.size w W) => fits_any c W (Cd.kept hc h) hs
  have D2 := fun W (h : Below w.heap.size w W) => locals_any c W (Cd.kept hc h) hs
  have D3 := fun W (h : Below w.heap.size w W) => sections_any c W (Cd.kept hc h) hs
  have D4 := fun W (h : Below w.heap.size w W) => sites_any c W (Cd.kept hc h) hs
  have D5 := fun W (h : Below w.heap.size w W) => threads_any c W (Cd.kept hc h) hs
  have F := hid (goodP_iff c)
  obtain ⟨a0, p0, a1, p1, a2, p2, a3, p3, a4, p4, e0, e1, e2, e3, e4⟩ := cd_open hc
  rw [e0, e1, e2, e3, e4] at D1 D2 D3 D4 D5 B0 K ⊢
  clear e0 e1 e2 e3 e4 hc hs
  generalize GoodP c = PP at *
  generalize fitsP c = P1 at *
  generalize localsP c = P2 at *
  generalize sectionsP c = P3 at *
  generalize sitesP c = P4 at *
  generalize threadsP c = P5 at *
  replace D1 := hid D1
  replace D2 := hid D2
  replace D3 := hid D3
  replace D4 := hid D4
  replace D5 := hid D5
  replace B0 := hid B0
  replace K := hid K
  go_enter Tryd.func22, Tryd.ntmps22
  go_wp2_with fail
  refine Calls.mono (D1.out _ B0.out) ?_
  rintro e w1 ⟨q1, rfl, hq1, hb⟩
  replace B0 := hid (bover B0.out hb)
  replace K := hid (K.out.kept hb)
  replace hq1 := hid hq1
  clear hb D1
  cases q1
  · have G : Hid (¬ PP) := hid (fun h => by have h2 := F.out.1 h; have h3 := hq1.out.2 h2.1; cases h3)
    clear hq1 K F
    go_wp2
    go_ret
    exact exNo G.out B0.out
  replace hq1 := hid (hq1.out.1 rfl)
  have v10 := K.out.2 0 _ rfl
  have v11 := K.out.2 1 _ rfl
  have v12 := K.out.2 2 _ rfl
  have v13 := K.out.2 3 _ rfl
  have v14 := K.out.2 4 _ rfl
  go_wp2_with fail
  refine Calls.mono (D2.out _ B0.out) ?_
  rintro e w2 ⟨q2, rfl, hq2, hb⟩
  replace B0 := hid (bover B0.out hb)
  replace K := hid (K.out.kept hb)
  replace hq2 := hid hq2
  clear hb D2 v10 v11 v12 v13 v14
  cases q2
  · have G : Hid (¬ PP) := hid (fun h => by have h2 := F.out.1 h; have h3 := hq2.out.2 h2.2.1; cases h3)
    clear hq2 K F
    go_wp2
    go_ret
    exact exNo G.out B0.out
  replace hq2 := hid (hq2.out.1 rfl)
  have v20 := K.out.2 0 _ rfl
  have v21 := K.out.2 1 _ rfl
  have v22 := K.out.2 2 _ rfl
  have v23 := K.out.2 3 _ rfl
  have v24 := K.out.2 4 _ rfl
  go_wp2_with fail
  refine Calls.mono (D3.out _ B0.out) ?_
  rintro e w3 ⟨q3, rfl, hq3, hb⟩
  replace B0 := hid (bover B0.out hb)
  replace K := hid (K.out.kept hb)
  replace hq3 := hid hq3
  clear hb D3 v20 v21 v22 v23 v24
  cases q3
  · have G : Hid (¬ PP) := hid (fun h => by have h2 := F.out.1 h; have h3 := hq3.out.2 h2.2.2.1; cases h3)
    clear hq3 K F
    go_wp2
    go_ret
    exact exNo G.out B0.out
  replace hq3 := hid (hq3.out.1 rfl)
  have v30 := K.out.2 0 _ rfl
  have v31 := K.out.2 1 _ rfl
  have v32 := K.out.2 2 _ rfl
  have v33 := K.out.2 3 _ rfl
  have v34 := K.out.2 4 _ rfl
  go_wp2_with fail
  refine Calls.mono (D4.out _ B0.out) ?_
  rintro e w4 ⟨q4, rfl, hq4, hb⟩
  replace B0 := hid (bover B0.out hb)
  replace K := hid (K.out.kept hb)
  replace hq4 := hid hq4
  clear hb D4 v30 v31 v32 v33 v34
  cases q4
  · have G : Hid (¬ PP) := hid (fun h => by have h2 := F.out.1 h; have h3 := hq4.out.2 h2.2.2.2.1; cases h3)
    clear hq4 K F
    go_wp2
    go_ret
    exact exNo G.out B0.out
  replace hq4 := hid (hq4.out.1 rfl)
  have v40 := K.out.2 0 _ rfl
  have v41 := K.out.2 1 _ rfl
  have v42 := K.out.2 2 _ rfl
  have v43 := K.out.2 3 _ rfl
  have v44 := K.out.2 4 _ rfl
  go_wp2_with fail
  refine Calls.mono (D5.out _ B0.out) ?_
  rintro e w5 ⟨q5, rfl, hq5, hb⟩
  replace B0 := hid (bover B0.out hb)
  replace K := hid (K.out.kept hb)
  replace hq5 := hid hq5
  clear hb D5 v40 v41 v42 v43 v44
  go_wp2
  go_ret
  exact exB (hq5.out.trans ⟨fun h => F.out.2 ⟨hq1.out, hq2.out, hq3.out, hq4.out, h⟩, fun h => (F.out.1 h).2.2.2.2⟩) B0.out
end Go.Proofs.YtdpbapoahfggeaaDoor
