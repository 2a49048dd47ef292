/- Contracts of fits and localsCanBe. -/
import Derived.Test.YtdpbapoahfggeaaDoorLocC
import Derived.Laws.EntriesVeiled
namespace Go.Proofs.YtdpbapoahfggeaaDoor
open Go.ChangeShapes Go.WideShapes Go.ChangeAt Go.RowKit
set_option linter.unusedVariables false
set_option linter.unusedSimpArgs false

/-- A code's value, its slices told. -/
theorem cd_open {w : World} {c : Cd} (h : c.okW w) : ∃ a0 p0 a1 p1 a2 p2 a3 p3 a4 p4, c.rv = .slice a0 c.recs.length p0 ∧ c.gv = .slice a1 c.globs.length p1 ∧ c.tv = .slice a2 c.threads.length p2 ∧ c.ev = .slice a3 c.sites.length p3 ∧ c.cv = .slice a4 c.secs.length p4 := by
  obtain ⟨a0, p0, e0⟩ := h.1.form
  obtain ⟨a1, p1, e1⟩ := h.2.1.form
  obtain ⟨a2, p2, e2⟩ := h.2.2.1.form
  obtain ⟨a3, p3, e3⟩ := h.2.2.2.1.form
  obtain ⟨a4, p4, e4⟩ := h.2.2.2.2.form
  exact ⟨a0, p0, a1, p1, a2, p2, a3, p3, a4, p4, e0, e1, e2, e3, e4⟩

def fitsP (c : Cd) : Prop := c.recs.length ≤ 6 ∧ c.globs.length ≤ 8 ∧ c.threads.length ≤ 4 ∧ c.sites.length ≤ 32 ∧ c.secs.length ≤ 32 ∧ ∀ (i : Nat) (r : Rl), c.recs[i]? = some r → r.flds.length ≤ 6
def localsP (c : Cd) : Prop :=
  (∀ (i : Nat) (l : Loc), c.globs[i]? = some l → cellOk c.recs.length l = true) ∧
  (∀ (i : Nat) (r : Rl), c.recs[i]? = some r → ∀ (j : Nat) (l : Loc), r.flds[j]? = some l → cellOk c.recs.length l = true) ∧
  (∀ (i : Nat) (t : Bd), c.threads[i]? = some t → ∀ (j : Nat) (l : Loc), t.slots[j]? = some l → locOk c.recs.length l = true)

theorem big {n m : Nat} (h : ¬ n ≤ m) : (m : Int) < (n : Int) := by omega
theorem low {n m : Nat} (h : n ≤ m) : (n : Int) ≤ (m : Int) := by omega

set_option maxRecDepth 100000 in
set_option maxHeartbeats 1000000 in
theorem fits_any (c : Cd) (w : World) (hc : c.okW w) (hs : SmallP c) : Calls Tryd.prog 33 #[.agg #[c.rv, c.gv, c.tv, c.ev, c.cv]] w (Ans (fitsP c) w) := by
  obtain ⟨a0, p0, a1, p1, a2, p2, a3, p3, a4, p4, e0, e1, e2, e3, e4⟩ := cd_open hc
  have C := none24_25 c.rv c.recs (fun _ r => r.flds.length ≤ 6) (w.alloc (.cells #[c.rv, c.gv, c.tv, c.ev, c.cv] 41)) (Rls.kept hc.1 ((Below.refl _ _).alloc (Nat.le_refl _) _)) (by have := hs.l1; omega)
    (fun W j x h hx ok => by obtain ⟨a, p, e⟩ := RowOf.form ok; rw [e]; exact long_any a _ p j W)
  rw [e0, e1, e2, e3, e4] at *
  clear e0 e1 e2 e3 e4 hs hc
  replace C := hid C
  by_cases h0 : c.recs.length ≤ 6
  · have k0 := low h0
    by_cases h1 : c.globs.length ≤ 8
    · have k1 := low h1
      by_cases h2 : c.threads.length ≤ 4
      · have k2 := low h2
        by_cases h3 : c.sites.length ≤ 32
        · have k3 := low h3
          by_cases h4 : c.secs.length ≤ 32
          · have k4 := low h4
            go_enter Tryd.func33, Tryd.ntmps33
            go_wp2_with (go_at_call 43; refine Calls.mono C.out ?_; rintro e w' ⟨q, rfl, hq, hb'⟩; replace hq := hid hq)
            go_ret
            exact exB (by rw [hq.out]; simp [fitsP, h0, h1, h2, h3, h4]) (bover ((Below.refl _ _).alloc (Nat.le_refl _) _) hb')
          · have k4 := big h4
            clear C
            go_enter Tryd.func33, Tryd.ntmps33
            go_wp2
            go_ret
            exact exNo (fun h => by unfold fitsP at h; omega) ((Below.refl _ _).alloc (Nat.le_refl _) _)
        · have k3 := big h3
          clear C
          go_enter Tryd.func33, Tryd.ntmps33
          go_wp2
          go_ret
          exact exNo (fun h => by unfold fitsP at h; omega) ((Below.refl _ _).alloc (Nat.le_refl _) _)
      · have k2 := big h2
        clear C
        go_enter Tryd.func33, Tryd.ntmps33
        go_wp2
        go_ret
        exact exNo (fun h => by unfold fitsP at h; omega) ((Below.refl _ _).alloc (Nat.le_refl _) _)
    · have k1 := big h1
      clear C
      go_enter Tryd.func33, Tryd.ntmps33
      go_wp2
      go_ret
      exact exNo (fun h => by unfold fitsP at h; omega) ((Below.refl _ _).alloc (Nat.le_refl _) _)
  · have k0 := big h0
    clear C
    go_enter Tryd.func33, Tryd.ntmps33
    go_wp2
    go_ret
    exact exNo (fun h => by unfold fitsP at h; omega) ((Below.refl _ _).alloc (Nat.le_refl _) _)

set_option maxRecDepth 100000 in
set_option maxHeartbeats 1000000 in
theorem locals_any (c : Cd) (w : World) (hc : c.okW w) (hs : SmallP c) : Calls Tryd.prog 34 #[.agg #[c.rv, c.gv, c.tv, c.ev, c.cv]] w (Ans (localsP c) w) := by
  obtain ⟨a0, p0, a1, p1, a2, p2, a3, p3, a4, p4, e0, e1, e2, e3, e4⟩ := cd_open hc
  have K1 := hid (BoxAt.new w #[.slice a0 c.recs.length p0, c.gv, c.tv, c.ev, c.cv] 41)
  have D1 := hid (fun W (h : BoxAt W w.heap.size [.slice a0 c.recs.length p0, c.gv, c.tv, c.ev, c.cv]) (k : BoxAt W (w.heap.size + 1) [.func (.func 45) #[] #[.pointer (some ⟨w.heap.size, 0, none⟩)]]) (hb : Below w.heap.size w W) =>
    none29_28 c.gv c.globs (fun _ x => cellOk c.recs.length x = true) (.pointer (some ⟨w.heap.size + 1, 0, none⟩)) W (Locs.kept hc.2.1 hb) (by have := hs.l2; omega)
      (fun W' j x h' _ _ => (wrongCell_any _ _ a0 _ p0 c.gv c.tv c.ev c.cv j x W' (h.kept h') (k.kept h')).mono (by rintro e w' ⟨rfl, h2⟩; exact exN (by simp) h2)))
  have D2 := hid (fun W (h : BoxAt W w.heap.size [.slice a0 c.recs.length p0, c.gv, c.tv, c.ev, c.cv]) (k : BoxAt W (w.heap.size + 1) [.func (.func 45) #[] #[.pointer (some ⟨w.heap.size, 0, none⟩)]]) (m : BoxAt W (w.heap.size + 1 + 1) [.func (.func 47) #[] #[.pointer (some ⟨w.heap.size + 1, 0, none⟩)]]) (hb : Below w.heap.size w W) =>
    none24_30 c.rv c.recs (fun _ r => ∀ (i : Nat) (x : Loc), r.flds[i]? = some x → cellOk c.recs.length x = true) (.pointer (some ⟨w.heap.size + 1 + 1, 0, none⟩)) W (Rls.kept hc.1 hb) (by have := hs.l1; omega)
      (fun W' j x h' hx ok => fldsWrong_any _ _ _ a0 _ p0 c.gv c.tv c.ev c.cv j x.fv x.flds W' ok (by have := hs.flds j x hx; omega) (h.kept h') (k.kept h') (m.kept h')))
  have D3 := hid (fun W (h : BoxAt W w.heap.size [.slice a0 c.recs.length p0, c.gv, c.tv, c.ev, c.cv]) (k : BoxAt W (w.heap.size + 1) [.func (.func 45) #[] #[.pointer (some ⟨w.heap.size, 0, none⟩)]]) (hb : Below w.heap.size w W) =>
    none31_32 c.tv c.threads (fun _ t => ∀ (i : Nat) (x : Loc), t.slots[i]? = some x → locOk c.recs.length x = true) (.pointer (some ⟨w.heap.size + 1, 0, none⟩)) W (Bds.kept hc.2.2.1 hb) (by have := hs.l3; omega)
      (fun W' j x h' hx ok => slotsWrong_any _ _ a0 _ p0 c.gv c.tv c.ev c.cv j x W' ok.2.1 (by have := hs.slots j x hx; omega) (h.kept h') (k.kept h')))
  rw [e0] at *
  rw [e1, e2, e3, e4] at *
  clear e0 e1 e2 e3 e4 hs hc
  have hw : BoxAt (((w.alloc (.cells #[.slice a0 c.recs.length p0, .slice a1 c.globs.length p1, .slice a2 c.threads.length p2, .slice a3 c.sites.length p3, .slice a4 c.secs.length p4] 41)).alloc (.cells #[.func (.func 45) #[] #[.pointer (some ⟨w.heap.size, 0, none⟩)]] 97)).alloc (.cells #[.func (.func 47) #[] #[.pointer (some ⟨w.heap.size + 1, 0, none⟩)]] 97)) w.heap.size [.slice a0 c.recs.length p0, .slice a1 c.globs.length p1, .slice a2 c.threads.length p2, .slice a3 c.sites.length p3, .slice a4 c.secs.length p4] := (K1.out.past _).past _
  have hk : BoxAt (((w.alloc (.cells #[.slice a0 c.recs.length p0, .slice a1 c.globs.length p1, .slice a2 c.threads.length p2, .slice a3 c.sites.length p3, .slice a4 c.secs.length p4] 41)).alloc (.cells #[.func (.func 45) #[] #[.pointer (some ⟨w.heap.size, 0, none⟩)]] 97)).alloc (.cells #[.func (.func 47) #[] #[.pointer (some ⟨w.heap.size + 1, 0, none⟩)]] 97)) (w.heap.size + 1) [.func (.func 45) #[] #[.pointer (some ⟨w.heap.size, 0, none⟩)]] := by
    have := (BoxAt.new (w.alloc (.cells #[.slice a0 c.recs.length p0, .slice a1 c.globs.length p1, .slice a2 c.threads.length p2, .slice a3 c.sites.length p3, .slice a4 c.secs.length p4] 41)) #[.func (.func 45) #[] #[.pointer (some ⟨w.heap.size, 0, none⟩)]] 97).past (.cells #[.func (.func 47) #[] #[.pointer (some ⟨w.heap.size + 1, 0, none⟩)]] 97)
    simp only [World.size_alloc] at this
    exact this
  have hm : BoxAt (((w.alloc (.cells #[.slice a0 c.recs.length p0, .slice a1 c.globs.length p1, .slice a2 c.threads.length p2, .slice a3 c.sites.length p3, .slice a4 c.secs.length p4] 41)).alloc (.cells #[.func (.func 45) #[] #[.pointer (some ⟨w.heap.size, 0, none⟩)]] 97)).alloc (.cells #[.func (.func 47) #[] #[.pointer (some ⟨w.heap.size + 1, 0, none⟩)]] 97)) (w.heap.size + 1 + 1) [.func (.func 47) #[] #[.pointer (some ⟨w.heap.size + 1, 0, none⟩)]] := by
    have := BoxAt.new ((w.alloc (.cells #[.slice a0 c.recs.length p0, .slice a1 c.globs.length p1, .slice a2 c.threads.length p2, .slice a3 c.sites.length p3, .slice a4 c.secs.length p4] 41)).alloc (.cells #[.func (.func 45) #[] #[.pointer (some ⟨w.heap.size, 0, none⟩)]] 97)) #[.func (.func 47) #[] #[.pointer (some ⟨w.heap.size + 1, 0, none⟩)]] 97
    simp only [World.size_alloc] at this
    exact this
  have hB := hid (below3 w (.cells #[.slice a0 c.recs.length p0, .slice a1 c.globs.length p1, .slice a2 c.threads.length p2, .slice a3 c.sites.length p3, .slice a4 c.secs.length p4] 41) (.cells #[.func (.func 45) #[] #[.pointer (some ⟨w.heap.size, 0, none⟩)]] 97) (.cells #[.func (.func 47) #[] #[.pointer (some ⟨w.heap.size + 1, 0, none⟩)]] 97))
  replace hw := hid hw
  replace hk := hid hk
  replace hm := hid hm
  go_enter Tryd.func34, Tryd.ntmps34
  go_wp2_with fail
  refine Calls.mono (D1.out _ hw.out hk.out hB.out) ?_
  rintro e w1 ⟨q1, rfl, hq1, hb1⟩
  have B1 := hid (bover hB.out hb1)
  have W1 := hid (hw.out.kept hb1)
  have N1 := hid (hk.out.kept hb1)
  have M1 := hid (hm.out.kept hb1)
  have cell4 := M1.out.2 0 _ rfl
  have cc0 := W1.out.2 0 _ rfl
  have cc1 := W1.out.2 1 _ rfl
  have cc2 := W1.out.2 2 _ rfl
  have s2 := hb1.size
  replace hq1 := hid hq1
  clear hw hk hm hB hb1 D1
  simp only [World.size_alloc] at s2
  cases q1
  · have n1 : Hid (¬ localsP c) := hid (fun h => by have := hq1.out.2 h.1; cases this)
    clear hq1 D2 D3
    go_wp2_with fail
    go_ret
    exact exNo n1.out B1.out
  · have y1 := hid (hq1.out.1 rfl)
    have C2 := hid (D2.out w1 W1.out N1.out M1.out B1.out)
    clear D2 hq1
    go_wp2_with fail
    refine Calls.mono C2.out ?_
    rintro e w2 ⟨q2, rfl, hq2, hb2⟩
    have B2 := hid (bover B1.out hb2)
    have W2 := hid (W1.out.kept hb2)
    have N2 := hid (N1.out.kept hb2)
    have dd2 := W2.out.2 2 _ rfl
    have s3 := hb2.size
    replace hq2 := hid hq2
    clear W1 N1 M1 B1 cell4 cc0 cc1 cc2 hb2 C2
    cases q2
    · have n1 : Hid (¬ localsP c) := hid (fun h => by have := hq2.out.2 h.2.1; cases this)
      clear hq2 D3
      go_wp2_with fail
      go_ret
      exact exNo n1.out B2.out
    · have y2 := hid (hq2.out.1 rfl)
      have C3 := hid (D3.out w2 W2.out N2.out B2.out)
      clear D3 hq2
      go_wp2_with fail
      refine Calls.mono C3.out ?_
      rintro e w3 ⟨q3, rfl, hq3, hb3⟩
      have B3 := hid (bover B2.out hb3)
      replace hq3 := hid hq3
      clear W2 N2 B2 dd2 hb3 C3
      go_wp2_with fail
      go_ret
      exact exB (hq3.out.trans ⟨fun h => ⟨y1.out, y2.out, h⟩, fun h => h.2.2⟩) B3.out
end Go.Proofs.YtdpbapoahfggeaaDoor
