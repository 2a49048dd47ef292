/- Contracts of instrCanBe, canBe and threadsCanBe. -/
import Derived.Test.YtkdpcaoocmbbhaaDoorAgrC
import Derived.Test.YtkdpcaoocmbbhaaDoorSm2
namespace Go.Proofs.YtkdpcaoocmbbhaaDoor
open Go.ChangeShapes Go.WideShapes Go.ChangeAt Go.RowKit
set_option linter.unusedVariables false
set_option linter.unusedSimpArgs false

theorem BoxAt.seven {w : World} {b : Nat} {v0 v1 v2 v3 v4 v5 v6 : Value} (h : BoxAt w b [v0, v1, v2, v3, v4, v5, v6]) :
    w.cell? ⟨b, 0, none⟩ = some v0 ∧ w.cell? ⟨b, 1, none⟩ = some v1 ∧ w.cell? ⟨b, 2, none⟩ = some v2 ∧ w.cell? ⟨b, 3, none⟩ = some v3 ∧ w.cell? ⟨b, 4, none⟩ = some v4 ∧ w.cell? ⟨b, 5, none⟩ = some v5 ∧ w.cell? ⟨b, 6, none⟩ = some v6 :=
  ⟨h.2 0 _ rfl, h.2 1 _ rfl, h.2 2 _ rfl, h.2 3 _ rfl, h.2 4 _ rfl, h.2 5 _ rfl, h.2 6 _ rfl⟩

set_option maxRecDepth 100000 in
set_option maxHeartbeats 4000000 in
theorem instrCan_any (c : Cd) (th pl : Int) (b : Bd) (x : Ins) (w : World) (hc : c.okW w) (hs : SmallP c) (hb : b.okW w) (hbs : b.slots.length ≤ 1000) (hbc : b.code.length ≤ 1000) (hx : x.okW w) (hxi : x.items.length ≤ 1000) (hxx : x.index.length ≤ 1000) :
    Calls Tryd.prog 75 #[.agg #[c.rv, c.gv, c.tv, c.ev, c.cv, .int .i64 th, b.sv, b.cv, .int .i64 b.most], .int .i64 pl, x.val] w fun e w' => e = .returned (.bool (insOk c th b pl x)) ∧ Below w.heap.size w w' := by
  obtain ⟨a0, p0, a1, p1, a2, p2, a3, p3, a4, p4, e0, e1, e2, e3, e4⟩ := cd_open hc
  obtain ⟨a5, p5, e5⟩ := hb.2.1.form
  obtain ⟨a6, p6, e6⟩ := hb.2.2.form
  obtain ⟨a7, p7, e7⟩ := hx.2.1.form
  obtain ⟨a8, p8, e8⟩ := hx.2.2.form
  have BB := below2 w (.cells #[.slice a0 c.recs.length p0, .slice a1 c.globs.length p1, .slice a2 c.threads.length p2, .slice a3 c.sites.length p3, .slice a4 c.secs.length p4, .int .i64 th, .slice a5 b.slots.length p5, .slice a6 b.code.length p6, .int .i64 b.most] 103) (.cells #[.int .i64 x.op, .int .i64 x.dst, .int .i64 x.src, .int .i64 x.rc, .int .i64 x.n, .int .i64 x.to, .slice a7 x.items.length p7, .slice a8 x.index.length p8] 50)
  have KL := (BoxAt.new w #[.slice a0 c.recs.length p0, .slice a1 c.globs.length p1, .slice a2 c.threads.length p2, .slice a3 c.sites.length p3, .slice a4 c.secs.length p4, .int .i64 th, .slice a5 b.slots.length p5, .slice a6 b.code.length p6, .int .i64 b.most] 103).past (.cells #[.int .i64 x.op, .int .i64 x.dst, .int .i64 x.src, .int .i64 x.rc, .int .i64 x.n, .int .i64 x.to, .slice a7 x.items.length p7, .slice a8 x.index.length p8] 50)
  have KX := BoxAt.new (w.alloc (.cells #[.slice a0 c.recs.length p0, .slice a1 c.globs.length p1, .slice a2 c.threads.length p2, .slice a3 c.sites.length p3, .slice a4 c.secs.length p4, .int .i64 th, .slice a5 b.slots.length p5, .slice a6 b.code.length p6, .int .i64 b.most] 103)) #[.int .i64 x.op, .int .i64 x.dst, .int .i64 x.src, .int .i64 x.rc, .int .i64 x.n, .int .i64 x.to, .slice a7 x.items.length p7, .slice a8 x.index.length p8] 50
  simp only [World.size_alloc] at KX
  have hsec := hc.2.2.2.2
  have hit := hx.2.1
  have hix := hx.2.2
  rw [e4] at hsec
  rw [e7] at hit
  rw [e8] at hix
  have DS := fun W (h : Below w.heap.size w W) => section_any c.rv c.gv c.tv c.ev (.slice a4 c.secs.length p4) b.sv b.cv (.int .i64 b.most) c.secs th pl W (Secs.kept hsec h) (by have := hs.l5; omega)
  have DF := fun W (h : Below w.heap.size w W) => fields_any (hasD x.op) (hasS x.op) (hasR x.op) (hasN x.op) (hasT x.op) (hasI x.op) (hasX x.op) th pl b.most a0 c.recs.length p0 a1 c.globs.length p1 a2 c.threads.length p2 a3 c.sites.length p3 a4 c.secs.length p4 a5 b.slots.length p5 a6 b.code.length p6 a7 p7 a8 p8 x c.secs W (Secs.kept hsec h) (by have := hs.l5; omega) (by omega) (Items.kept hit h) (Items.kept hix h) (by omega) (by omega)
  have DA := fun (ho : isOp x.op = true) (hf : fieldsB c th b pl x = true) W (h : Below w.heap.size w W) => agrees_any c th pl b x W (Cd.kept hc h) hs (Bd.kept hb h) hbs (Ins.kept hx h) ho hf
  rw [← fieldsB_eq] at DF
  unfold Ins.val at DA ⊢
  have DH := fun W => shape_any x.op W
  unfold shapeV at DH
  have F := hid (show insOk c th b pl x = (isOp x.op && ((decide (pl = (b.code.length : Int) - 1) == (x.op == 17)) && ((!touchB x.op || decide (0 ≤ inside c.secs th pl)) && (fieldsB c th b pl x && agreesB c th b pl x)))) from rfl)
  have DT := fun W => touches_any x.op W
  rw [e0, e1, e2, e3, e5, e6] at DS
  rw [e0, e1, e2, e3, e4, e5, e6, e7, e8] at DA ⊢
  clear e0 e1 e2 e3 e4 e5 e6 e7 e8 hc hb hx hsec hit hix
  generalize hasD x.op = hD at *
  generalize hasS x.op = hS at *
  generalize hasR x.op = hR at *
  generalize hasN x.op = hN at *
  generalize hasT x.op = hT at *
  generalize hasI x.op = hI at *
  generalize hasX x.op = hX at *
  generalize hfb : fieldsB c th b pl x = r4 at *
  generalize hib : isOp x.op = r1 at *
  generalize touchB x.op = tb at *
  generalize agreesB c th b pl x = r5 at *
  generalize inside c.secs th pl = ins at *
  generalize insOk c th b pl x = rr at *
  have hl : (pl == (b.code.length : Int) - 1) = decide (pl = (b.code.length : Int) - 1) := by rw [Bool.eq_iff_iff]; simp
  rw [← hl] at F
  clear hl hfb hib
  replace DS := hid DS
  replace DF := hid DF
  replace DA := hid DA
  replace DH := hid DH
  replace DT := hid DT
  replace BB := hid BB
  replace KL := hid KL
  replace KX := hid KX
  have h1000 : (b.code.length : Int) ≤ 1000 := by omega
  go_enter Tryd.func75, Tryd.ntmps75
  go_wp2_with fail
  refine Calls.mono (DH.out _) ?_
  rintro e w1 ⟨rfl, hb1⟩
  have B1 := hid ((bover BB.out hb1).alloc (bover BB.out hb1).size (.cells #[.bool hD, .bool hS, .bool hR, .bool hN, .bool hT, .bool hI, .bool hX] 115))
  replace KL := hid ((KL.out.kept hb1).past (.cells #[.bool hD, .bool hS, .bool hR, .bool hN, .bool hT, .bool hI, .bool hX] 115))
  replace KX := hid ((KX.out.kept hb1).past (.cells #[.bool hD, .bool hS, .bool hR, .bool hN, .bool hT, .bool hI, .bool hX] 115))
  have KS := hid (BoxAt.new w1 #[.bool hD, .bool hS, .bool hR, .bool hN, .bool hT, .bool hI, .bool hX] 115)
  have hlt1 : w.heap.size < w1.heap.size := by have := hb1.size; simp only [World.size_alloc] at this; omega
  have hlt2 : w.heap.size + 1 < w1.heap.size := by have := hb1.size; simp only [World.size_alloc] at this; omega
  have G9 := (KL.out.2 7 _ rfl)
  rw [World.cell?_alloc_lt _ _ _ hlt1] at G9
  have G0 := (KX.out.2 0 _ rfl)
  rw [World.cell?_alloc_lt _ _ _ hlt2] at G0
  clear hb1 DH BB
  cases r1
  · have G : Hid (rr = false) := hid (by rw [F.out]; rfl)
    clear F DS DF DA DT KL KX KS
    go_wp2
    go_ret
    exact ⟨retB G.out.symm, B1.out⟩
  cases hl : (pl == (b.code.length : Int) - 1) <;> cases ho : (x.op == 17)
  · rw [hl, ho] at F
    replace F : Hid (rr = ((!tb || decide (0 ≤ ins)) && (r4 && r5))) := hid (by rw [F.out]; rfl)
    cases tb
    · replace F : Hid (rr = (r4 && r5)) := hid (by rw [F.out]; rfl)
      obtain ⟨⟨g0, g1, g2, g3, g4, g5, g6, g7, g8⟩, f0, f1, f2, f3, f4, f5, f6, f7⟩ := thirteen2 KL.out KX.out
      obtain ⟨s0, s1, s2, s3, s4, s5, s6⟩ := KS.out.seven
      go_wp2_with (first | (go_at_call 77; refine Calls.mono (DT.out _) ?_; rintro e w9 ⟨rfl, rfl⟩) | fail)
      clear g0 g1 g2 g3 g4 g5 g6 g7 g8 f0 f1 f2 f3 f4 f5 f6 f7 s0 s1 s2 s3 s4 s5 s6 G9 G0
      refine Calls.mono (DF.out _ B1.out) ?_
      rintro e w3 ⟨rfl, hb3⟩
      replace B1 := hid (B1.out.trans (hb3.mono B1.out.size))
      replace KL := hid (KL.out.kept hb3)
      replace KX := hid (KX.out.kept hb3)
      replace KS := hid (KS.out.kept hb3)
      clear hb3 DF
      cases r4
      · have G : Hid (rr = false) := hid (by rw [F.out]; rfl)
        clear F DA KL KX KS
        go_wp2
        go_ret
        exact ⟨retB G.out.symm, B1.out⟩
      · have G : Hid (rr = r5) := hid (by rw [F.out]; rfl)
        have DA2 := hid (DA.out (by first | trivial | rfl) (by first | trivial | rfl))
        obtain ⟨⟨g0, g1, g2, g3, g4, g5, g6, g7, g8⟩, f0, f1, f2, f3, f4, f5, f6, f7⟩ := thirteen2 KL.out KX.out
        obtain ⟨s0, s1, s2, s3, s4, s5, s6⟩ := KS.out.seven
        clear F DA KL KX KS
        go_wp2_with fail
        refine Calls.mono (DA2.out _ B1.out) ?_
        rintro e w4 ⟨rfl, hb4⟩
        replace B1 := hid (B1.out.trans (hb4.mono B1.out.size))
        clear g0 g1 g2 g3 g4 g5 g6 g7 g8 f0 f1 f2 f3 f4 f5 f6 f7 s0 s1 s2 s3 s4 s5 s6 hb4 DA2
        go_wp2
        go_ret
        exact ⟨retB G.out.symm, B1.out⟩
    · by_cases hi : 0 ≤ ins
      · replace F : Hid (rr = (r4 && r5)) := hid (by rw [F.out, decide_eq_true hi]; rfl)
        obtain ⟨⟨g0, g1, g2, g3, g4, g5, g6, g7, g8⟩, f0, f1, f2, f3, f4, f5, f6, f7⟩ := thirteen2 KL.out KX.out
        obtain ⟨s0, s1, s2, s3, s4, s5, s6⟩ := KS.out.seven
        go_wp2_with (first | (go_at_call 77; refine Calls.mono (DT.out _) ?_; rintro e w9 ⟨rfl, rfl⟩) | fail)
        refine Calls.mono (DS.out _ B1.out) ?_
        rintro e w2 ⟨rfl, hb2⟩
        replace B1 := hid (B1.out.trans (hb2.mono B1.out.size))
        replace KL := hid (KL.out.kept hb2)
        replace KX := hid (KX.out.kept hb2)
        replace KS := hid (KS.out.kept hb2)
        clear g0 g1 g2 g3 g4 g5 g6 g7 g8 f0 f1 f2 f3 f4 f5 f6 f7 s0 s1 s2 s3 s4 s5 s6 G9 G0 hb2 DS DT
        obtain ⟨⟨g0, g1, g2, g3, g4, g5, g6, g7, g8⟩, f0, f1, f2, f3, f4, f5, f6, f7⟩ := thirteen2 KL.out KX.out
        obtain ⟨s0, s1, s2, s3, s4, s5, s6⟩ := KS.out.seven
        go_wp2_with fail
        clear g0 g1 g2 g3 g4 g5 g6 g7 g8 f0 f1 f2 f3 f4 f5 f6 f7 s0 s1 s2 s3 s4 s5 s6
        refine Calls.mono (DF.out _ B1.out) ?_
        rintro e w3 ⟨rfl, hb3⟩
        replace B1 := hid (B1.out.trans (hb3.mono B1.out.size))
        replace KL := hid (KL.out.kept hb3)
        replace KX := hid (KX.out.kept hb3)
        replace KS := hid (KS.out.kept hb3)
        clear hb3 DF
        cases r4
        · have G : Hid (rr = false) := hid (by rw [F.out]; rfl)
          clear F DA KL KX KS
          go_wp2
          go_ret
          exact ⟨retB G.out.symm, B1.out⟩
        · have G : Hid (rr = r5) := hid (by rw [F.out]; rfl)
          have DA2 := hid (DA.out (by first | trivial | rfl) (by first | trivial | rfl))
          obtain ⟨⟨g0, g1, g2, g3, g4, g5, g6, g7, g8⟩, f0, f1, f2, f3, f4, f5, f6, f7⟩ := thirteen2 KL.out KX.out
          obtain ⟨s0, s1, s2, s3, s4, s5, s6⟩ := KS.out.seven
          clear F DA KL KX KS
          go_wp2_with fail
          refine Calls.mono (DA2.out _ B1.out) ?_
          rintro e w4 ⟨rfl, hb4⟩
          replace B1 := hid (B1.out.trans (hb4.mono B1.out.size))
          clear g0 g1 g2 g3 g4 g5 g6 g7 g8 f0 f1 f2 f3 f4 f5 f6 f7 s0 s1 s2 s3 s4 s5 s6 hb4 DA2
          go_wp2
          go_ret
          exact ⟨retB G.out.symm, B1.out⟩
      · have G : Hid (rr = false) := hid (by rw [F.out, decide_eq_false hi]; rfl)
        obtain ⟨⟨g0, g1, g2, g3, g4, g5, g6, g7, g8⟩, f0, f1, f2, f3, f4, f5, f6, f7⟩ := thirteen2 KL.out KX.out
        obtain ⟨s0, s1, s2, s3, s4, s5, s6⟩ := KS.out.seven
        clear F DF DA KL KX KS
        go_wp2_with (first | (go_at_call 77; refine Calls.mono (DT.out _) ?_; rintro e w9 ⟨rfl, rfl⟩) | (go_at_call 78; refine Calls.mono (DS.out _ B1.out) ?_; rintro e w2 ⟨rfl, hb2⟩))
        go_ret
        exact ⟨retB G.out.symm, B1.out.trans (hb2.mono B1.out.size)⟩
  · rw [hl, ho] at F
    have G : Hid (rr = false) := hid (by rw [F.out]; rfl)
    clear F DS DF DA KL KX KS
    go_wp2_with (go_at_call 77; refine Calls.mono (DT.out _) ?_; rintro e w9 ⟨rfl, rfl⟩)
    go_ret
    exact ⟨retB G.out.symm, B1.out⟩
  · rw [hl, ho] at F
    have G : Hid (rr = false) := hid (by rw [F.out]; rfl)
    clear F DS DF DA KL KX KS
    go_wp2_with (go_at_call 77; refine Calls.mono (DT.out _) ?_; rintro e w9 ⟨rfl, rfl⟩)
    go_ret
    exact ⟨retB G.out.symm, B1.out⟩
  · rw [hl, ho] at F
    replace F : Hid (rr = ((!tb || decide (0 ≤ ins)) && (r4 && r5))) := hid (by rw [F.out]; rfl)
    cases tb
    · replace F : Hid (rr = (r4 && r5)) := hid (by rw [F.out]; rfl)
      obtain ⟨⟨g0, g1, g2, g3, g4, g5, g6, g7, g8⟩, f0, f1, f2, f3, f4, f5, f6, f7⟩ := thirteen2 KL.out KX.out
      obtain ⟨s0, s1, s2, s3, s4, s5, s6⟩ := KS.out.seven
      go_wp2_with (first | (go_at_call 77; refine Calls.mono (DT.out _) ?_; rintro e w9 ⟨rfl, rfl⟩) | fail)
      clear g0 g1 g2 g3 g4 g5 g6 g7 g8 f0 f1 f2 f3 f4 f5 f6 f7 s0 s1 s2 s3 s4 s5 s6 G9 G0
      refine Calls.mono (DF.out _ B1.out) ?_
      rintro e w3 ⟨rfl, hb3⟩
      replace B1 := hid (B1.out.trans (hb3.mono B1.out.size))
      replace KL := hid (KL.out.kept hb3)
      replace KX := hid (KX.out.kept hb3)
      replace KS := hid (KS.out.kept hb3)
      clear hb3 DF
      cases r4
      · have G : Hid (rr = false) := hid (by rw [F.out]; rfl)
        clear F DA KL KX KS
        go_wp2
        go_ret
        exact ⟨retB G.out.symm, B1.out⟩
      · have G : Hid (rr = r5) := hid (by rw [F.out]; rfl)
        have DA2 := hid (DA.out (by first | trivial | rfl) (by first | trivial | rfl))
        obtain ⟨⟨g0, g1, g2, g3, g4, g5, g6, g7, g8⟩, f0, f1, f2, f3, f4, f5, f6, f7⟩ := thirteen2 KL.out KX.out
        obtain ⟨s0, s1, s2, s3, s4, s5, s6⟩ := KS.out.seven
        clear F DA KL KX KS
        go_wp2_with fail
        refine Calls.mono (DA2.out _ B1.out) ?_
        rintro e w4 ⟨rfl, hb4⟩
        replace B1 := hid (B1.out.trans (hb4.mono B1.out.size))
        clear g0 g1 g2 g3 g4 g5 g6 g7 g8 f0 f1 f2 f3 f4 f5 f6 f7 s0 s1 s2 s3 s4 s5 s6 hb4 DA2
        go_wp2
        go_ret
        exact ⟨retB G.out.symm, B1.out⟩
    · by_cases hi : 0 ≤ ins
      · replace F : Hid (rr = (r4 && r5)) := hid (by rw [F.out, decide_eq_true hi]; rfl)
        obtain ⟨⟨g0, g1, g2, g3, g4, g5, g6, g7, g8⟩, f0, f1, f2, f3, f4, f5, f6, f7⟩ := thirteen2 KL.out KX.out
        obtain ⟨s0, s1, s2, s3, s4, s5, s6⟩ := KS.out.seven
        go_wp2_with (first | (go_at_call 77; refine Calls.mono (DT.out _) ?_; rintro e w9 ⟨rfl, rfl⟩) | fail)
        refine Calls.mono (DS.out _ B1.out) ?_
        rintro e w2 ⟨rfl, hb2⟩
        replace B1 := hid (B1.out.trans (hb2.mono B1.out.size))
        replace KL := hid (KL.out.kept hb2)
        replace KX := hid (KX.out.kept hb2)
        replace KS := hid (KS.out.kept hb2)
        clear g0 g1 g2 g3 g4 g5 g6 g7 g8 f0 f1 f2 f3 f4 f5 f6 f7 s0 s1 s2 s3 s4 s5 s6 G9 G0 hb2 DS DT
        obtain ⟨⟨g0, g1, g2, g3, g4, g5, g6, g7, g8⟩, f0, f1, f2, f3, f4, f5, f6, f7⟩ := thirteen2 KL.out KX.out
        obtain ⟨s0, s1, s2, s3, s4, s5, s6⟩ := KS.out.seven
        go_wp2_with fail
        clear g0 g1 g2 g3 g4 g5 g6 g7 g8 f0 f1 f2 f3 f4 f5 f6 f7 s0 s1 s2 s3 s4 s5 s6
        refine Calls.mono (DF.out _ B1.out) ?_
        rintro e w3 ⟨rfl, hb3⟩
        replace B1 := hid (B1.out.trans (hb3.mono B1.out.size))
        replace KL := hid (KL.out.kept hb3)
        replace KX := hid (KX.out.kept hb3)
        replace KS := hid (KS.out.kept hb3)
        clear hb3 DF
        cases r4
        · have G : Hid (rr = false) := hid (by rw [F.out]; rfl)
          clear F DA KL KX KS
          go_wp2
          go_ret
          exact ⟨retB G.out.symm, B1.out⟩
        · have G : Hid (rr = r5) := hid (by rw [F.out]; rfl)
          have DA2 := hid (DA.out (by first | trivial | rfl) (by first | trivial | rfl))
          obtain ⟨⟨g0, g1, g2, g3, g4, g5, g6, g7, g8⟩, f0, f1, f2, f3, f4, f5, f6, f7⟩ := thirteen2 KL.out KX.out
          obtain ⟨s0, s1, s2, s3, s4, s5, s6⟩ := KS.out.seven
          clear F DA KL KX KS
          go_wp2_with fail
          refine Calls.mono (DA2.out _ B1.out) ?_
          rintro e w4 ⟨rfl, hb4⟩
          replace B1 := hid (B1.out.trans (hb4.mono B1.out.size))
          clear g0 g1 g2 g3 g4 g5 g6 g7 g8 f0 f1 f2 f3 f4 f5 f6 f7 s0 s1 s2 s3 s4 s5 s6 hb4 DA2
          go_wp2
          go_ret
          exact ⟨retB G.out.symm, B1.out⟩
      · have G : Hid (rr = false) := hid (by rw [F.out, decide_eq_false hi]; rfl)
        obtain ⟨⟨g0, g1, g2, g3, g4, g5, g6, g7, g8⟩, f0, f1, f2, f3, f4, f5, f6, f7⟩ := thirteen2 KL.out KX.out
        obtain ⟨s0, s1, s2, s3, s4, s5, s6⟩ := KS.out.seven
        clear F DF DA KL KX KS
        go_wp2_with (first | (go_at_call 77; refine Calls.mono (DT.out _) ?_; rintro e w9 ⟨rfl, rfl⟩) | (go_at_call 78; refine Calls.mono (DS.out _ B1.out) ?_; rintro e w2 ⟨rfl, hb2⟩))
        go_ret
        exact ⟨retB G.out.symm, B1.out.trans (hb2.mono B1.out.size)⟩
end Go.Proofs.YtkdpcaoocmbbhaaDoor
