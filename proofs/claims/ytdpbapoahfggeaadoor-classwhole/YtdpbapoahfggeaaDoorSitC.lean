/- Contracts of sectionsCanBe and sitesCanBe. -/
import Derived.Test.YtdpbapoahfggeaaDoorSecC
namespace Go.Proofs.YtdpbapoahfggeaaDoor
open Go.ChangeShapes Go.WideShapes Go.ChangeAt Go.RowKit
set_option linter.unusedVariables false
set_option linter.unusedSimpArgs false

set_option maxRecDepth 100000 in
set_option maxHeartbeats 1000000 in
theorem siteWrong_any (c : Cd) (j b : Nat) (s : Ste) (w : World) (hc : c.okW w) (hs : SmallP c) (hb : BoxAt w b [c.rv, c.gv, c.tv, c.ev, c.cv]) :
    Calls Tryd.prog 59 #[.int .i64 j, .agg #[.int .i64 s.th, .int .i64 s.pl, .int .i64 s.rc], .pointer (some ⟨b, 0, none⟩)] w (AnsN (steOk c j s) w) := by
  obtain ⟨i1, m1, r1, i2, m2, r2, f1, f2⟩ := insAt_form c hc s.th s.pl
  have C1 := fun W (h : Below w.heap.size w W) => instrAt_any c s.th s.pl W (Cd.kept hc h) hs
  unfold Ins.val at C1
  rw [f1, f2] at C1
  have F := hid (show ∀ y1, y1 = insAt c s.th s.pl → (steOk c j s ↔ ((y1.op = 8 ∨ y1.op = 9) ∧ y1.n = j)) from fun y1 e1 => by subst e1; exact Iff.rfl)
  replace F := hid (F.out _ rfl)
  clear f1 f2
  generalize insAt c s.th s.pl = y1 at *
  replace C1 := hid C1
  obtain ⟨a0, p0, a1, p1, a2, p2, a3, p3, a4, p4, e0, e1, e2, e3, e4⟩ := cd_open hc
  rw [e0, e1, e2, e3, e4] at C1 hb
  have c0 := hb.2 0 _ rfl
  have c1 := hb.2 1 _ rfl
  have c2 := hb.2 2 _ rfl
  have c3 := hb.2 3 _ rfl
  have c4 := hb.2 4 _ rfl
  have hlt := hb.1
  clear hb e0 e1 e2 e3 e4 hc hs
  have B0 := hid ((Below.refl w.heap.size w).alloc (Nat.le_refl _) (.cells #[.int .i64 s.th, .int .i64 s.pl, .int .i64 s.rc] 66))
  go_enter Tryd.func59, Tryd.ntmps59
  go_wp2_with fail
  refine Calls.mono (C1.out _ B0.out) ?_
  rintro e w1 ⟨rfl, hb1⟩
  have B1 := hid (bover B0.out hb1)
  have B2 := hid (B1.out.alloc B1.out.size (.cells #[.int .i64 y1.op, .int .i64 y1.dst, .int .i64 y1.src, .int .i64 y1.rc, .int .i64 y1.n, .int .i64 y1.to, .slice i1 m1 r1, .slice i2 m2 r2] 58))
  clear c0 c1 c2 c3 c4 hb1 C1 B1 B0
  cases q1 : (y1.op != 8)
  · cases q3 : (y1.n != (j : Int))
    · have G := hid (F.out.2 ⟨.inl (nb q1), nb q3⟩)
      go_wp2
      go_ret
      exact exNY G.out B2.out
    · have G : Hid (¬ steOk c j s) := hid (fun h => nt q3 (F.out.1 h).2)
      go_wp2
      go_ret
      exact exNN G.out B2.out
  · cases q2 : (y1.op != 9)
    · cases q3 : (y1.n != (j : Int))
      · have G := hid (F.out.2 ⟨.inr (nb q2), nb q3⟩)
        go_wp2
        go_ret
        exact exNY G.out B2.out
      · have G : Hid (¬ steOk c j s) := hid (fun h => nt q3 (F.out.1 h).2)
        go_wp2
        go_ret
        exact exNN G.out B2.out
    · have G : Hid (¬ steOk c j s) := hid (fun h => (F.out.1 h).1.elim (nt q1) (nt q2))
      go_wp2
      go_ret
      exact exNN G.out B2.out

def sitesP (c : Cd) : Prop := ∀ (i : Nat) (s : Ste), c.sites[i]? = some s → steOk c i s
def sectionsP (c : Cd) : Prop := ∀ (i : Nat) (s : Sec), c.secs[i]? = some s → secsP c i s

set_option maxHeartbeats 1000000 in
theorem sites_any (c : Cd) (w : World) (hc : c.okW w) (hs : SmallP c) : Calls Tryd.prog 36 #[.agg #[c.rv, c.gv, c.tv, c.ev, c.cv]] w (Ans (sitesP c) w) := by
  have B0 := (Below.refl w.heap.size w).alloc (Nat.le_refl _) (.cells #[c.rv, c.gv, c.tv, c.ev, c.cv] 41)
  have K := BoxAt.new w #[c.rv, c.gv, c.tv, c.ev, c.cv] 41
  have C := none39_40 c.ev c.sites (fun j s => steOk c j s) (.pointer (some ⟨w.heap.size, 0, none⟩)) (w.alloc (.cells #[c.rv, c.gv, c.tv, c.ev, c.cv] 41)) (Stes.kept hc.2.2.2.1 B0) (by have := hs.l4; omega)
    (fun W j x h hx ok => siteWrong_any c j w.heap.size x W (Cd.kept (Cd.kept hc B0) h) hs (K.kept h))
  obtain ⟨a0, p0, a1, p1, a2, p2, a3, p3, a4, p4, e0, e1, e2, e3, e4⟩ := cd_open hc
  rw [e0, e1, e2, e3, e4] at C B0 ⊢
  clear e0 e1 e2 e3 e4 hc hs K
  replace C := hid C
  replace B0 := hid B0
  go_enter Tryd.func36, Tryd.ntmps36
  go_wp2_with (go_at_call 58; refine Calls.mono C.out ?_; rintro e w' ⟨q, rfl, hq, hb'⟩; replace hq := hid hq)
  go_ret
  exact exB hq.out (bover B0.out hb')

set_option maxHeartbeats 1000000 in
theorem sections_any (c : Cd) (w : World) (hc : c.okW w) (hs : SmallP c) : Calls Tryd.prog 35 #[.agg #[c.rv, c.gv, c.tv, c.ev, c.cv]] w (Ans (sectionsP c) w) := by
  have B0 := (Below.refl w.heap.size w).alloc (Nat.le_refl _) (.cells #[c.rv, c.gv, c.tv, c.ev, c.cv] 41)
  have K := BoxAt.new w #[c.rv, c.gv, c.tv, c.ev, c.cv] 41
  have C := none33_34 c.cv c.secs (fun j s => secsP c j s) (.pointer (some ⟨w.heap.size, 0, none⟩)) (w.alloc (.cells #[c.rv, c.gv, c.tv, c.ev, c.cv] 41)) (Secs.kept hc.2.2.2.2 B0) (by have := hs.l5; omega)
    (fun W j x h hx ok => secWrong_any c j w.heap.size x W (Cd.kept (Cd.kept hc B0) h) hs (List.getElem?_eq_some_iff.1 hx).1 (K.kept h))
  obtain ⟨a0, p0, a1, p1, a2, p2, a3, p3, a4, p4, e0, e1, e2, e3, e4⟩ := cd_open hc
  rw [e0, e1, e2, e3, e4] at C B0 ⊢
  clear e0 e1 e2 e3 e4 hc hs K
  replace C := hid C
  replace B0 := hid B0
  go_enter Tryd.func35, Tryd.ntmps35
  go_wp2_with (go_at_call 52; refine Calls.mono C.out ?_; rintro e w' ⟨q, rfl, hq, hb'⟩; replace hq := hid hq)
  go_ret
  exact exB hq.out (bover B0.out hb')
end Go.Proofs.YtdpbapoahfggeaaDoor
