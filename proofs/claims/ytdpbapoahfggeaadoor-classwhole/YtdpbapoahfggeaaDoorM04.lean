/- LocC, Fits, InsAt, Rg, App -/
import Derived.Test.YtdpbapoahfggeaaDoorM03
import Derived.Laws.EntriesVeiled
import Derived.Deep.RegionHeld3
import Derived.Deep.CutBlock
import Derived.Deep.CutRange
import Derived.Deep.DeepCutAuto
import Derived.Maps.AppendAt
import Derived.Deep.AppendLies
/- Contracts of fits and localsCanBe. -/
namespace Go.Proofs.YtdpbapoahfggeaaDoor
open Go.ChangeShapes Go.WideShapes Go.ChangeAt Go.RowKit
set_option linter.unusedVariables false
set_option linter.unusedSimpArgs false

/-- A value in a box of its own: a struct's cells. -/
def BoxAt (w : World) (b : Nat) (cs : List Value) : Prop := b < w.heap.size ∧ ∀ k u, cs[k]? = some u → w.cell? ⟨b, k, none⟩ = some u
theorem BoxAt.kept {w w' : World} {b : Nat} {cs : List Value} (h : BoxAt w b cs) (hb : Below w.heap.size w w') : BoxAt w' b cs :=
  ⟨Nat.lt_of_lt_of_le h.1 hb.size, fun k u hk => by rw [hb.cell (p := ⟨b, k, none⟩) h.1]; exact h.2 k u hk⟩
theorem BoxAt.new (w : World) (cs : Array Value) (t : TypeId) : BoxAt (w.alloc (.cells cs t)) w.heap.size cs.toList := ⟨by simp, fun k u hk => new_cell _ _ _ _ _ (by simpa using hk)⟩
theorem BoxAt.past {w : World} {b : Nat} {cs : List Value} (h : BoxAt w b cs) (o : Obj) : BoxAt (w.alloc o) b cs := h.kept ((Below.refl _ _).alloc (Nat.le_refl _) o)


set_option maxHeartbeats 1000000 in
theorem long_any (a : Option Addr) (n cap : Nat) (j : Int) (w : World) : Calls Tryd.prog 44 #[.int .i64 j, .slice a n cap] w (AnsN (n ≤ 6) w) := by
  by_cases h : n ≤ 6
  · have h' : (n : Int) ≤ 6 := by omega
    go_enter Tryd.func44, Tryd.ntmps44
    go_wp2
    go_ret
    exact exN (by simp; omega) (Below.refl _ _)
  · have h' : 6 < (n : Int) := by omega
    go_enter Tryd.func44, Tryd.ntmps44
    go_wp2
    go_ret
    exact exN (by simp; omega) (Below.refl _ _)

set_option maxHeartbeats 1000000 in
theorem wrong_any (b : Nat) (a : Option Addr) (n cap : Nat) (gv tv ev cv : Value) (j : Int) (l : Loc) (w : World) (hb : BoxAt w b [.slice a n cap, gv, tv, ev, cv]) :
    Calls Tryd.prog 45 #[.int .i64 j, .agg #[.int .i64 l.kind, .int .i64 l.rc, .bool l.once], .pointer (some ⟨b, 0, none⟩)] w fun e w' => e = .returned (.bool (!locOk n l)) ∧ Below w.heap.size w w' := by
  have c0 := hb.2 0 _ rfl
  have c1 := hb.2 1 _ rfl
  have c2 := hb.2 2 _ rfl
  have c3 := hb.2 3 _ rfl
  have c4 := hb.2 4 _ rfl
  have hlt := hb.1
  clear hb
  have C := hid (fun W => localCan_any a n cap gv tv ev cv l W)
  go_enter Tryd.func45, Tryd.ntmps45
  go_wp2_with (go_at_call 46; refine Calls.mono (C.out _) ?_; rintro e w' ⟨rfl, hb'⟩)
  go_ret
  exact ⟨rfl, bover ((Below.refl _ _).alloc (Nat.le_refl _) _) hb'⟩

set_option maxHeartbeats 1000000 in
theorem wrongCell_any (b b2 : Nat) (a : Option Addr) (n cap : Nat) (gv tv ev cv : Value) (j : Int) (l : Loc) (w : World) (hb : BoxAt w b [.slice a n cap, gv, tv, ev, cv]) (h2 : BoxAt w b2 [.func (.func 45) #[] #[.pointer (some ⟨b, 0, none⟩)]]) :
    Calls Tryd.prog 47 #[.int .i64 j, .agg #[.int .i64 l.kind, .int .i64 l.rc, .bool l.once], .pointer (some ⟨b2, 0, none⟩)] w fun e w' => e = .returned (.bool (!cellOk n l)) ∧ Below w.heap.size w w' := by
  obtain ⟨k, r, o⟩ := l
  have c0 := h2.2 0 _ rfl
  have hlt := h2.1
  have C := hid (wrong_any b a n cap gv tv ev cv j ⟨k, r, o⟩ (w.alloc (.cells #[.int .i64 k, .int .i64 r, .bool o] 60)) (hb.past _))
  clear hb h2
  go_enter Tryd.func47, Tryd.ntmps47
  cases o
  · go_wp2_with (go_at_call 45; refine Calls.mono C.out ?_; rintro e w' ⟨rfl, hb'⟩)
    go_ret
    exact ⟨rfl, bover ((Below.refl _ _).alloc (Nat.le_refl _) _) hb'⟩
  · go_wp2_with (go_at_call 45; refine Calls.mono C.out ?_; rintro e w' ⟨rfl, hb'⟩)
    go_ret
    exact ⟨rfl, (Below.refl _ _).alloc (Nat.le_refl _) _⟩

set_option maxHeartbeats 1000000 in
theorem fldsWrong_any (b b2 b3 : Nat) (a : Option Addr) (n cap : Nat) (gv tv ev cv : Value) (j : Int) (v : Value) (l : List Loc) (w : World) (hl : Locs w v l) (hn : l.length ≤ 1000000) (hb : BoxAt w b [.slice a n cap, gv, tv, ev, cv]) (h2 : BoxAt w b2 [.func (.func 45) #[] #[.pointer (some ⟨b, 0, none⟩)]]) (h3 : BoxAt w b3 [.func (.func 47) #[] #[.pointer (some ⟨b2, 0, none⟩)]]) :
    Calls Tryd.prog 49 #[.int .i64 j, v, .pointer (some ⟨b3, 0, none⟩)] w (AnsN (∀ (i : Nat) (x : Loc), l[i]? = some x → cellOk n x = true) w) := by
  have c0 := h3.2 0 _ rfl
  have hlt := h3.1
  have C := hid (none29_28 v l (fun _ x => cellOk n x = true) (.pointer (some ⟨b2, 0, none⟩)) w hl hn (fun W j x h _ _ => (wrongCell_any b b2 a n cap gv tv ev cv j x W (hb.kept h) (h2.kept h)).mono (by rintro e w' ⟨rfl, h'⟩; exact exN (by simp) h')))
  clear hb h2 h3 hl
  go_enter Tryd.func49, Tryd.ntmps49
  go_wp2_with (go_at_call 48; refine Calls.mono C.out ?_; rintro e w' ⟨q, rfl, hq, hb'⟩; replace hq := hid hq)
  go_ret
  exact exN (by rw [← hq.out]; simp) hb'

set_option maxHeartbeats 1000000 in
theorem slotsWrong_any (b b2 : Nat) (a : Option Addr) (n cap : Nat) (gv tv ev cv : Value) (j : Int) (x : Bd) (w : World) (hl : Locs w x.sv x.slots) (hn : x.slots.length ≤ 1000000) (hb : BoxAt w b [.slice a n cap, gv, tv, ev, cv]) (h2 : BoxAt w b2 [.func (.func 45) #[] #[.pointer (some ⟨b, 0, none⟩)]]) :
    Calls Tryd.prog 51 #[.int .i64 j, .agg #[x.sv, x.cv, .int .i64 x.most], .pointer (some ⟨b2, 0, none⟩)] w (AnsN (∀ (i : Nat) (y : Loc), x.slots[i]? = some y → locOk n y = true) w) := by
  have c0 := h2.2 0 _ rfl
  have hlt := h2.1
  have C := hid (none29_26 x.sv x.slots (fun _ y => locOk n y = true) (.pointer (some ⟨b, 0, none⟩)) (w.alloc (.cells #[x.sv, x.cv, .int .i64 x.most] 55)) (Locs.kept hl ((Below.refl _ _).alloc (Nat.le_refl _) _)) hn
    (fun W j y h _ _ => (wrong_any b a n cap gv tv ev cv j y W ((hb.past _).kept h)).mono (by rintro e w' ⟨rfl, h'⟩; exact exN (by simp) h')))
  clear hb h2 hl
  go_enter Tryd.func51, Tryd.ntmps51
  go_wp2_with (go_at_call 48; refine Calls.mono C.out ?_; rintro e w' ⟨q, rfl, hq, hb'⟩; replace hq := hid hq)
  go_ret
  exact exN (by rw [← hq.out]; simp) (bover ((Below.refl _ _).alloc (Nat.le_refl _) _) hb')

end Go.Proofs.YtdpbapoahfggeaaDoor
/- Contracts of fits and localsCanBe. -/
namespace Go.Proofs.YtdpbapoahfggeaaDoor
open Go.ChangeShapes Go.WideShapes Go.ChangeAt Go.RowKit
set_option linter.unusedVariables false
set_option linter.unusedSimpArgs false

/-- A code's value, its slices told. -/
theorem cd_open {w : World} {c : Cd} (h : c.okW w) : ∃ a0 p0 a1 p1 a2 p2 a3 p3 a4 p4, c.rv = .slice a0 c.recs.length p0 ∧ c.gv = .slice a1 c.globs.length p1 ∧ c.tv = .slice a2 c.threads.length p2 ∧ c.ev = .slice a3 c.sites.length p3 ∧ c.cv = .slice a4 c.secs.length p4 := by
  obtain ⟨a0, p0, e0⟩ := h.1.form
  obtain ⟨a1, p1, e1⟩ := h.2.1.form
  obtain ⟨a2, p2, e2⟩ := h.2.2.1.form
  obtain ⟨a3, p3, e3⟩ := h.2.2.2.1.form
  obtain ⟨a4, p4, e4⟩ := h.2.2.2.2.form
  exact ⟨a0, p0, a1, p1, a2, p2, a3, p3, a4, p4, e0, e1, e2, e3, e4⟩

def fitsP (c : Cd) : Prop := c.recs.length ≤ 6 ∧ c.globs.length ≤ 8 ∧ c.threads.length ≤ 4 ∧ c.sites.length ≤ 32 ∧ c.secs.length ≤ 32 ∧ ∀ (i : Nat) (r : Rl), c.recs[i]? = some r → r.flds.length ≤ 6
def localsP (c : Cd) : Prop :=
  (∀ (i : Nat) (l : Loc), c.globs[i]? = some l → cellOk c.recs.length l = true) ∧
  (∀ (i : Nat) (r : Rl), c.recs[i]? = some r → ∀ (j : Nat) (l : Loc), r.flds[j]? = some l → cellOk c.recs.length l = true) ∧
  (∀ (i : Nat) (t : Bd), c.threads[i]? = some t → ∀ (j : Nat) (l : Loc), t.slots[j]? = some l → locOk c.recs.length l = true)

theorem big {n m : Nat} (h : ¬ n ≤ m) : (m : Int) < (n : Int) := by omega
theorem low {n m : Nat} (h : n ≤ m) : (n : Int) ≤ (m : Int) := by omega

set_option maxRecDepth 100000 in
set_option maxHeartbeats 1000000 in
theorem fits_any (c : Cd) (w : World) (hc : c.okW w) (hs : SmallP c) : Calls Tryd.prog 33 #[.agg #[c.rv, c.gv, c.tv, c.ev, c.cv]] w (Ans (fitsP c) w) := by
  obtain ⟨a0, p0, a1, p1, a2, p2, a3, p3, a4, p4, e0, e1, e2, e3, e4⟩ := cd_open hc
  have C := none24_25 c.rv c.recs (fun _ r => r.flds.length ≤ 6) (w.alloc (.cells #[c.rv, c.gv, c.tv, c.ev, c.cv] 41)) (Rls.kept hc.1 ((Below.refl _ _).alloc (Nat.le_refl _) _)) (by have := hs.l1; omega)
    (fun W j x h hx ok => by obtain ⟨a, p, e⟩ := RowOf.form ok; rw [e]; exact long_any a _ p j W)
  rw [e0, e1, e2, e3, e4] at *
  clear e0 e1 e2 e3 e4 hs hc
  replace C := hid C
  by_cases h0 : c.recs.length ≤ 6
  · have k0 := low h0
    by_cases h1 : c.globs.length ≤ 8
    · have k1 := low h1
      by_cases h2 : c.threads.length ≤ 4
      · have k2 := low h2
        by_cases h3 : c.sites.length ≤ 32
        · have k3 := low h3
          by_cases h4 : c.secs.length ≤ 32
          · have k4 := low h4
            go_enter Tryd.func33, Tryd.ntmps33
            go_wp2_with (go_at_call 43; refine Calls.mono C.out ?_; rintro e w' ⟨q, rfl, hq, hb'⟩; replace hq := hid hq)
            go_ret
            exact exB (by rw [hq.out]; simp [fitsP, h0, h1, h2, h3, h4]) (bover ((Below.refl _ _).alloc (Nat.le_refl _) _) hb')
          · have k4 := big h4
            clear C
            go_enter Tryd.func33, Tryd.ntmps33
            go_wp2
            go_ret
            exact exNo (fun h => by unfold fitsP at h; omega) ((Below.refl _ _).alloc (Nat.le_refl _) _)
        · have k3 := big h3
          clear C
          go_enter Tryd.func33, Tryd.ntmps33
          go_wp2
          go_ret
          exact exNo (fun h => by unfold fitsP at h; omega) ((Below.refl _ _).alloc (Nat.le_refl _) _)
      · have k2 := big h2
        clear C
        go_enter Tryd.func33, Tryd.ntmps33
        go_wp2
        go_ret
        exact exNo (fun h => by unfold fitsP at h; omega) ((Below.refl _ _).alloc (Nat.le_refl _) _)
    · have k1 := big h1
      clear C
      go_enter Tryd.func33, Tryd.ntmps33
      go_wp2
      go_ret
      exact exNo (fun h => by unfold fitsP at h; omega) ((Below.refl _ _).alloc (Nat.le_refl _) _)
  · have k0 := big h0
    clear C
    go_enter Tryd.func33, Tryd.ntmps33
    go_wp2
    go_ret
    exact exNo (fun h => by unfold fitsP at h; omega) ((Below.refl _ _).alloc (Nat.le_refl _) _)

set_option maxRecDepth 100000 in
set_option maxHeartbeats 1000000 in
theorem locals_any (c : Cd) (w : World) (hc : c.okW w) (hs : SmallP c) : Calls Tryd.prog 34 #[.agg #[c.rv, c.gv, c.tv, c.ev, c.cv]] w (Ans (localsP c) w) := by
  obtain ⟨a0, p0, a1, p1, a2, p2, a3, p3, a4, p4, e0, e1, e2, e3, e4⟩ := cd_open hc
  have K1 := hid (BoxAt.new w #[.slice a0 c.recs.length p0, c.gv, c.tv, c.ev, c.cv] 41)
  have D1 := hid (fun W (h : BoxAt W w.heap.size [.slice a0 c.recs.length p0, c.gv, c.tv, c.ev, c.cv]) (k : BoxAt W (w.heap.size + 1) [.func (.func 45) #[] #[.pointer (some ⟨w.heap.size, 0, none⟩)]]) (hb : Below w.heap.size w W) =>
    none29_28 c.gv c.globs (fun _ x => cellOk c.recs.length x = true) (.pointer (some ⟨w.heap.size + 1, 0, none⟩)) W (Locs.kept hc.2.1 hb) (by have := hs.l2; omega)
      (fun W' j x h' _ _ => (wrongCell_any _ _ a0 _ p0 c.gv c.tv c.ev c.cv j x W' (h.kept h') (k.kept h')).mono (by rintro e w' ⟨rfl, h2⟩; exact exN (by simp) h2)))
  have D2 := hid (fun W (h : BoxAt W w.heap.size [.slice a0 c.recs.length p0, c.gv, c.tv, c.ev, c.cv]) (k : BoxAt W (w.heap.size + 1) [.func (.func 45) #[] #[.pointer (some ⟨w.heap.size, 0, none⟩)]]) (m : BoxAt W (w.heap.size + 1 + 1) [.func (.func 47) #[] #[.pointer (some ⟨w.heap.size + 1, 0, none⟩)]]) (hb : Below w.heap.size w W) =>
    none24_30 c.rv c.recs (fun _ r => ∀ (i : Nat) (x : Loc), r.flds[i]? = some x → cellOk c.recs.length x = true) (.pointer (some ⟨w.heap.size + 1 + 1, 0, none⟩)) W (Rls.kept hc.1 hb) (by have := hs.l1; omega)
      (fun W' j x h' hx ok => fldsWrong_any _ _ _ a0 _ p0 c.gv c.tv c.ev c.cv j x.fv x.flds W' ok (by have := hs.flds j x hx; omega) (h.kept h') (k.kept h') (m.kept h')))
  have D3 := hid (fun W (h : BoxAt W w.heap.size [.slice a0 c.recs.length p0, c.gv, c.tv, c.ev, c.cv]) (k : BoxAt W (w.heap.size + 1) [.func (.func 45) #[] #[.pointer (some ⟨w.heap.size, 0, none⟩)]]) (hb : Below w.heap.size w W) =>
    none31_32 c.tv c.threads (fun _ t => ∀ (i : Nat) (x : Loc), t.slots[i]? = some x → locOk c.recs.length x = true) (.pointer (some ⟨w.heap.size + 1, 0, none⟩)) W (Bds.kept hc.2.2.1 hb) (by have := hs.l3; omega)
      (fun W' j x h' hx ok => slotsWrong_any _ _ a0 _ p0 c.gv c.tv c.ev c.cv j x W' ok.2.1 (by have := hs.slots j x hx; omega) (h.kept h') (k.kept h')))
  rw [e0] at *
  rw [e1, e2, e3, e4] at *
  clear e0 e1 e2 e3 e4 hs hc
  have hw : BoxAt (((w.alloc (.cells #[.slice a0 c.recs.length p0, .slice a1 c.globs.length p1, .slice a2 c.threads.length p2, .slice a3 c.sites.length p3, .slice a4 c.secs.length p4] 41)).alloc (.cells #[.func (.func 45) #[] #[.pointer (some ⟨w.heap.size, 0, none⟩)]] 97)).alloc (.cells #[.func (.func 47) #[] #[.pointer (some ⟨w.heap.size + 1, 0, none⟩)]] 97)) w.heap.size [.slice a0 c.recs.length p0, .slice a1 c.globs.length p1, .slice a2 c.threads.length p2, .slice a3 c.sites.length p3, .slice a4 c.secs.length p4] := (K1.out.past _).past _
  have hk : BoxAt (((w.alloc (.cells #[.slice a0 c.recs.length p0, .slice a1 c.globs.length p1, .slice a2 c.threads.length p2, .slice a3 c.sites.length p3, .slice a4 c.secs.length p4] 41)).alloc (.cells #[.func (.func 45) #[] #[.pointer (some ⟨w.heap.size, 0, none⟩)]] 97)).alloc (.cells #[.func (.func 47) #[] #[.pointer (some ⟨w.heap.size + 1, 0, none⟩)]] 97)) (w.heap.size + 1) [.func (.func 45) #[] #[.pointer (some ⟨w.heap.size, 0, none⟩)]] := by
    have := (BoxAt.new (w.alloc (.cells #[.slice a0 c.recs.length p0, .slice a1 c.globs.length p1, .slice a2 c.threads.length p2, .slice a3 c.sites.length p3, .slice a4 c.secs.length p4] 41)) #[.func (.func 45) #[] #[.pointer (some ⟨w.heap.size, 0, none⟩)]] 97).past (.cells #[.func (.func 47) #[] #[.pointer (some ⟨w.heap.size + 1, 0, none⟩)]] 97)
    simp only [World.size_alloc] at this
    exact this
  have hm : BoxAt (((w.alloc (.cells #[.slice a0 c.recs.length p0, .slice a1 c.globs.length p1, .slice a2 c.threads.length p2, .slice a3 c.sites.length p3, .slice a4 c.secs.length p4] 41)).alloc (.cells #[.func (.func 45) #[] #[.pointer (some ⟨w.heap.size, 0, none⟩)]] 97)).alloc (.cells #[.func (.func 47) #[] #[.pointer (some ⟨w.heap.size + 1, 0, none⟩)]] 97)) (w.heap.size + 1 + 1) [.func (.func 47) #[] #[.pointer (some ⟨w.heap.size + 1, 0, none⟩)]] := by
    have := BoxAt.new ((w.alloc (.cells #[.slice a0 c.recs.length p0, .slice a1 c.globs.length p1, .slice a2 c.threads.length p2, .slice a3 c.sites.length p3, .slice a4 c.secs.length p4] 41)).alloc (.cells #[.func (.func 45) #[] #[.pointer (some ⟨w.heap.size, 0, none⟩)]] 97)) #[.func (.func 47) #[] #[.pointer (some ⟨w.heap.size + 1, 0, none⟩)]] 97
    simp only [World.size_alloc] at this
    exact this
  have hB := hid (below3 w (.cells #[.slice a0 c.recs.length p0, .slice a1 c.globs.length p1, .slice a2 c.threads.length p2, .slice a3 c.sites.length p3, .slice a4 c.secs.length p4] 41) (.cells #[.func (.func 45) #[] #[.pointer (some ⟨w.heap.size, 0, none⟩)]] 97) (.cells #[.func (.func 47) #[] #[.pointer (some ⟨w.heap.size + 1, 0, none⟩)]] 97))
  replace hw := hid hw
  replace hk := hid hk
  replace hm := hid hm
  go_enter Tryd.func34, Tryd.ntmps34
  go_wp2_with fail
  refine Calls.mono (D1.out _ hw.out hk.out hB.out) ?_
  rintro e w1 ⟨q1, rfl, hq1, hb1⟩
  have B1 := hid (bover hB.out hb1)
  have W1 := hid (hw.out.kept hb1)
  have N1 := hid (hk.out.kept hb1)
  have M1 := hid (hm.out.kept hb1)
  have cell4 := M1.out.2 0 _ rfl
  have cc0 := W1.out.2 0 _ rfl
  have cc1 := W1.out.2 1 _ rfl
  have cc2 := W1.out.2 2 _ rfl
  have s2 := hb1.size
  replace hq1 := hid hq1
  clear hw hk hm hB hb1 D1
  simp only [World.size_alloc] at s2
  cases q1
  · have n1 : Hid (¬ localsP c) := hid (fun h => by have := hq1.out.2 h.1; cases this)
    clear hq1 D2 D3
    go_wp2_with fail
    go_ret
    exact exNo n1.out B1.out
  · have y1 := hid (hq1.out.1 rfl)
    have C2 := hid (D2.out w1 W1.out N1.out M1.out B1.out)
    clear D2 hq1
    go_wp2_with fail
    refine Calls.mono C2.out ?_
    rintro e w2 ⟨q2, rfl, hq2, hb2⟩
    have B2 := hid (bover B1.out hb2)
    have W2 := hid (W1.out.kept hb2)
    have N2 := hid (N1.out.kept hb2)
    have dd2 := W2.out.2 2 _ rfl
    have s3 := hb2.size
    replace hq2 := hid hq2
    clear W1 N1 M1 B1 cell4 cc0 cc1 cc2 hb2 C2
    cases q2
    · have n1 : Hid (¬ localsP c) := hid (fun h => by have := hq2.out.2 h.2.1; cases this)
      clear hq2 D3
      go_wp2_with fail
      go_ret
      exact exNo n1.out B2.out
    · have y2 := hid (hq2.out.1 rfl)
      have C3 := hid (D3.out w2 W2.out N2.out B2.out)
      clear D3 hq2
      go_wp2_with fail
      refine Calls.mono C3.out ?_
      rintro e w3 ⟨q3, rfl, hq3, hb3⟩
      have B3 := hid (bover B2.out hb3)
      replace hq3 := hid hq3
      clear W2 N2 B2 dd2 hb3 C3
      go_wp2_with fail
      go_ret
      exact exB (hq3.out.trans ⟨fun h => ⟨y1.out, y2.out, h⟩, fun h => h.2.2⟩) B3.out
end Go.Proofs.YtdpbapoahfggeaaDoor
/- Contract of instrAt. -/
namespace Go.Proofs.YtdpbapoahfggeaaDoor
open Go.ChangeShapes Go.WideShapes Go.ChangeAt Go.RowKit
set_option linter.unusedVariables false
set_option linter.unusedSimpArgs false

def Ins.val (x : Ins) : Value := .agg #[.int .i64 x.op, .int .i64 x.dst, .int .i64 x.src, .int .i64 x.rc, .int .i64 x.n, .int .i64 x.to, x.iv, x.xv]

theorem insAt_no1 (c : Cd) (th pl : Int) (h : isIn th c.threads.length = false) : insAt c th pl = Ins.z := by unfold insAt; rw [h]; rfl
theorem insAt_no2 (c : Cd) (th pl : Int) (t : Bd) (ht : c.threads[th.toNat]? = some t) (h : isIn pl t.code.length = false) : insAt c th pl = Ins.z := by
  unfold insAt
  rw [show c.threads.getD th.toNat Bd.z = t by simp [List.getD, ht], h, Bool.and_false]; rfl
theorem insAt_yes (c : Cd) (th pl : Int) (t : Bd) (x : Ins) (h0 : 0 ≤ th) (h1 : 0 ≤ pl) (ht : c.threads[th.toNat]? = some t) (hx : t.code[pl.toNat]? = some x) : insAt c th pl = x := by
  unfold insAt
  have e1 : isIn th c.threads.length = true := by have := (List.getElem?_eq_some_iff.1 ht).1; simp [isIn]; omega
  have e2 : isIn pl t.code.length = true := by have := (List.getElem?_eq_some_iff.1 hx).1; simp [isIn]; omega
  rw [show c.threads.getD th.toNat Bd.z = t by simp [List.getD, ht], e1, e2]
  simp [List.getD, hx]

theorem isIn_nat {n : Int} {m : Nat} (h : isIn n m = true) : ∃ k : Nat, n = k ∧ k < m := by
  obtain ⟨h0, h1⟩ := isIn_iff.1 h
  obtain ⟨k, rfl⟩ := Int.eq_ofNat_of_zero_le h0
  exact ⟨k, rfl, by omega⟩

theorem bd_cells {w : World} {v : Value} {l : List Bd} (h : Bds w v l) : ∃ a cap, v = .slice a l.length cap ∧ ∀ j, j < l.length → ∃ x b off a1 p1 a2 p2, l[j]? = some x ∧ a = some ⟨b, off, none⟩ ∧ b < w.heap.size ∧ x.sv = .slice a1 x.slots.length p1 ∧ x.cv = .slice a2 x.code.length p2 ∧
    w.cell? ⟨b, off + j * 3, none⟩ = some (.slice a1 x.slots.length p1) ∧ w.cell? ⟨b, off + j * 3 + 1, none⟩ = some (.slice a2 x.code.length p2) ∧ w.cell? ⟨b, off + j * 3 + 2, none⟩ = some (.int .i64 x.most) ∧ x.okW w := by
  obtain ⟨a, cap, e, hr⟩ := h.at
  refine ⟨a, cap, e, fun j hj => ?_⟩
  obtain ⟨x, b, off, hx, ha, hb, hc, ok⟩ := hr j hj
  obtain ⟨a1, p1, e1⟩ := ok.2.1.form
  obtain ⟨a2, p2, e2⟩ := ok.2.2.form
  exact ⟨x, b, off, a1, p1, a2, p2, hx, ha, hb, e1, e2, by have := hc 0 _ rfl; rwa [e1] at this, by have := hc 1 _ rfl; rwa [e2] at this, hc 2 _ rfl, ok⟩

theorem ins_cells {w : World} {v : Value} {l : List Ins} (h : Inss w v l) : ∃ a cap, v = .slice a l.length cap ∧ ∀ j, j < l.length → ∃ x b off a1 p1 a2 p2, l[j]? = some x ∧ a = some ⟨b, off, none⟩ ∧ b < w.heap.size ∧ x.iv = .slice a1 x.items.length p1 ∧ x.xv = .slice a2 x.index.length p2 ∧
    (w.cell? ⟨b, off + j * 8, none⟩ = some (.int .i64 x.op) ∧ w.cell? ⟨b, off + j * 8 + 1, none⟩ = some (.int .i64 x.dst) ∧ w.cell? ⟨b, off + j * 8 + 2, none⟩ = some (.int .i64 x.src) ∧ w.cell? ⟨b, off + j * 8 + 3, none⟩ = some (.int .i64 x.rc) ∧
     w.cell? ⟨b, off + j * 8 + 4, none⟩ = some (.int .i64 x.n) ∧ w.cell? ⟨b, off + j * 8 + 5, none⟩ = some (.int .i64 x.to) ∧ w.cell? ⟨b, off + j * 8 + 6, none⟩ = some (.slice a1 x.items.length p1) ∧ w.cell? ⟨b, off + j * 8 + 7, none⟩ = some (.slice a2 x.index.length p2)) ∧ x.okW w := by
  obtain ⟨a, cap, e, hr⟩ := h.at
  refine ⟨a, cap, e, fun j hj => ?_⟩
  obtain ⟨x, b, off, hx, ha, hb, hc, ok⟩ := hr j hj
  obtain ⟨a1, p1, e1⟩ := ok.2.1.form
  obtain ⟨a2, p2, e2⟩ := ok.2.2.form
  exact ⟨x, b, off, a1, p1, a2, p2, hx, ha, hb, e1, e2, ⟨hc 0 _ rfl, hc 1 _ rfl, hc 2 _ rfl, hc 3 _ rfl, hc 4 _ rfl, hc 5 _ rfl, by have := hc 6 _ rfl; rwa [e1] at this, by have := hc 7 _ rfl; rwa [e2] at this⟩, ok⟩

theorem alloc_new2 (w : World) (o1 o2 : Obj) : ((w.alloc o1).alloc o2).heap[w.heap.size + 1]? = some o2 := by
  have := heap_alloc_new (w.alloc o1) o2
  simpa only [World.size_alloc] using this

set_option maxRecDepth 100000 in
set_option maxHeartbeats 1000000 in
theorem instrAt_any (c : Cd) (th pl : Int) (w : World) (hc : c.okW w) (hs : SmallP c) :
    Calls Tryd.prog 54 #[.agg #[c.rv, c.gv, c.tv, c.ev, c.cv], .int .i64 th, .int .i64 pl] w fun e w' => e = .returned (insAt c th pl).val ∧ Below w.heap.size w w' := by
  obtain ⟨a0, p0, a1, p1, a2, p2, a3, p3, a4, p4, e0, e1, e2, e3, e4⟩ := cd_open hc
  obtain ⟨a2', p2', e2', hr⟩ := bd_cells hc.2.2.1
  rw [e2] at e2'
  cases e2'
  have C := hid (fun W => place47_any th a2 c.threads.length p2 W)
  rw [e0, e1, e2, e3, e4]
  clear e0 e1 e2 e3 e4
  cases h1 : isIn th c.threads.length
  · have F := hid (insAt_no1 c th pl h1)
    rw [h1] at C
    clear h1 hc hs hr
    go_enter Tryd.func54, Tryd.ntmps54
    go_wp2_with (go_at_call 64; refine Calls.mono (C.out _) ?_; rintro e w' ⟨rfl, rfl⟩)
    refine bodyPost_ret (results_cell_row rfl _ _ (w.heap.size + 1) _ _ _ _ rfl (alloc_new2 _ _ _) Tryd.underlying58 rfl (by kernel_rfl)) rfl ?_
    exact ⟨by rw [F.out]; rfl, below2 _ _ _⟩
  · rw [h1] at C
    obtain ⟨t, rfl, ht⟩ := isIn_nat h1
    obtain ⟨x, b, off, q1, r1, q2, r2, hx, rfl, hb, es, ec, g0, g1, g2, ok⟩ := hr t ht
    obtain ⟨a5, p5, e5, hr5⟩ := ins_cells ok.2.2
    rw [ec] at e5
    cases e5
    have C2 := hid (fun W => place48_any pl q2 x.code.length r2 W)
    have ht' : (t : Int) < (c.threads.length : Int) := by omega
    have hl3 := hs.l3
    have hl4 := hs.code t x hx
    cases h2 : isIn pl x.code.length
    · have F := hid (insAt_no2 c t pl x (by simpa using hx) h2)
      rw [h2] at C2
      clear h1 h2 hc hs hr hx es ec ok hr5
      go_enter Tryd.func54, Tryd.ntmps54
      go_wp2_with (first | (go_at_call 64; refine Calls.mono (C.out _) ?_; rintro e w' ⟨rfl, rfl⟩) | (go_at_call 65; refine Calls.mono (C2.out _) ?_; rintro e w' ⟨rfl, rfl⟩))
      refine bodyPost_ret (results_cell_row rfl _ _ (w.heap.size + 1) _ _ _ _ rfl (alloc_new2 _ _ _) Tryd.underlying58 rfl (by kernel_rfl)) rfl ?_
      exact ⟨by rw [F.out]; rfl, below2 _ _ _⟩
    · rw [h2] at C2
      obtain ⟨k, rfl, hk⟩ := isIn_nat h2
      obtain ⟨y, b', off', s1, u1, s2, u2, hy, rfl, hb', ei, ex, ⟨d0, d1, d2, d3, d4, d5, d6, d7⟩, ok'⟩ := hr5 k hk
      have F := hid (insAt_yes c t k x y (by omega) (by omega) (by simpa using hx) (by simpa using hy))
      have V : Hid (y.val = .agg #[.int .i64 y.op, .int .i64 y.dst, .int .i64 y.src, .int .i64 y.rc, .int .i64 y.n, .int .i64 y.to, .slice s1 y.items.length u1, .slice s2 y.index.length u2]) := hid (by unfold Ins.val; rw [ei, ex])
      have hk' : (k : Int) < (x.code.length : Int) := by omega
      clear h1 h2 hc hs hr hx es ec ok hr5 hy ei ex ok'
      go_enter Tryd.func54, Tryd.ntmps54
      go_wp2_with (first | (go_at_call 64; refine Calls.mono (C.out _) ?_; rintro e w' ⟨rfl, rfl⟩) | (go_at_call 65; refine Calls.mono (C2.out _) ?_; rintro e w' ⟨rfl, rfl⟩))
      refine bodyPost_ret (results_cell_row rfl _ _ (w.heap.size + 1) _ _ _ _ rfl (alloc_new2 _ _ _) Tryd.underlying58 rfl (by kernel_rfl)) rfl ?_
      exact ⟨by rw [F.out, V.out], below2 _ _ _⟩
end Go.Proofs.YtdpbapoahfggeaaDoor
/- Boxes in a region that draws its order: what stays behind calls, allocs and stores; laws for a call and a store there. -/
namespace Go.Proofs.YtdpbapoahfggeaaDoor
open Go.ChangeShapes Go.WideShapes Go.ChangeAt Go.RowKit
set_option linter.unusedVariables false

/-- A block of type t holds these cells. -/
def VarAt (w : World) (b : Nat) (cs : List Value) (t : TypeId) : Prop := w.heap[b]? = some (.cells cs.toArray t (0, 0))
theorem VarAt.lt {w : World} {b : Nat} {cs : List Value} {t : TypeId} (h : VarAt w b cs t) : b < w.heap.size := (Array.getElem?_eq_some_iff.1 h).1
theorem VarAt.new (w : World) (cs : List Value) (t : TypeId) : VarAt (w.alloc (.cells cs.toArray t)) w.heap.size cs t := heap_alloc_new _ _
theorem VarAt.kept {w w' : World} {b : Nat} {cs : List Value} {t : TypeId} (h : VarAt w b cs t) (k : Below w.heap.size w w') : VarAt w' b cs t := (k.block b h.lt).trans h
theorem VarAt.past {w : World} {b : Nat} {cs : List Value} {t : TypeId} (h : VarAt w b cs t) (o : Obj) : VarAt (w.alloc o) b cs t := h.kept ((Below.refl _ _).alloc (Nat.le_refl _) o)
theorem VarAt.box {w : World} {b : Nat} {cs : List Value} {t : TypeId} (h : VarAt w b cs t) : BoxAt w b cs := ⟨h.lt, fun k u hk => by
  rw [cell_of_row _ _ k _ _ _ h]
  simpa using hk⟩
theorem VarAt.frozen {w : World} {b : Nat} {cs : List Value} {t : TypeId} (h : VarAt w b cs t) (j : Nat) : w.frozen? ⟨b, j, none⟩ = false := by
  have h : w.heap[b]? = some (.cells cs.toArray t (0, 0)) := h
  simp [World.frozen?, h]
theorem VarAt.set {w : World} {b : Nat} {cs : List Value} {t : TypeId} (h : VarAt w b cs t) (j : Nat) (v : Value) : VarAt (w.setCell ⟨b, j, none⟩ v) b (cs.set j v) t := by
  have h : w.heap[b]? = some (.cells cs.toArray t (0, 0)) := h
  simp only [VarAt, World.setCell, Array.getElem?_modify]
  simp [h]

/-- Cells, some of them put anew. -/
def splice : List Value → Nat → List Value → List Value
  | cs, _, [] => cs
  | cs, o, v :: r => splice (cs.set o v) (o + 1) r
theorem VarAt.sets {b : Nat} {t : TypeId} : ∀ (ds : List Value) (o : Nat) (w : World) (cs : List Value), VarAt w b cs t → VarAt (w.setCells b o ds) b (splice cs o ds) t
  | [], _, _, _, h => h
  | v :: r, o, w, cs, h => VarAt.sets r (o + 1) _ _ (h.set o v)

theorem size_drew (w : World) : w.drew.heap.size = w.heap.size := rfl

/-- Nothing but block b has turned. -/
structure Turned (b : Nat) (w w' : World) : Prop where
  os : w'.os = w.os
  tape : w'.tape = w.tape
  output : w'.output = w.output
  size : w'.heap.size = w.heap.size
  block : ∀ k, k ≠ b → w'.heap[k]? = w.heap[k]?
theorem Turned.refl (b : Nat) (w : World) : Turned b w w := ⟨rfl, rfl, rfl, rfl, fun _ _ => rfl⟩
theorem Turned.sets (b : Nat) : ∀ (ds : List Value) (o : Nat) (w : World), Turned b w (w.setCells b o ds)
  | [], _, w => Turned.refl b w
  | v :: r, o, w => by
    have h := Turned.sets b r (o + 1) (w.setCell ⟨b, o, none⟩ v)
    refine ⟨h.os, h.tape, h.output, h.size.trans (by simp [World.setCell]), fun k hk => (h.block k hk).trans (Below.heap_setCell _ _ _ _ hk)⟩
theorem Turned.var {p b : Nat} {w w' : World} {cs : List Value} {t : TypeId} (h : Turned p w w') (k : VarAt w b cs t) (hb : b ≠ p) : VarAt w' b cs t := (h.block b hb).trans k
theorem Turned.box {p b : Nat} {w w' : World} {cs : List Value} (h : Turned p w w') (k : BoxAt w b cs) (hb : b ≠ p) : BoxAt w' b cs :=
  ⟨by rw [h.size]; exact k.1, fun j u hj => (World.cell?_of_block (a := ⟨b, j, none⟩) (h.block b hb)).trans (k.2 j u hj)⟩
theorem Turned.below {p : Nat} {w0 w w' : World} (h : Turned p w w') (k : Below w0.heap.size w0 w) (hp : w0.heap.size ≤ p) : Below w0.heap.size w0 w' :=
  ⟨h.os.trans k.os, h.tape.trans k.tape, h.output.trans k.output, by rw [h.size]; exact k.size, fun j hj => (h.block j (by omega)).trans (k.block j hj)⟩

/-- The world behind some steps: the code's box, the section's box (laid first). -/
structure Rg (w : World) (b : Nat) (v0 v1 v2 v3 v4 u0 u1 u2 : Value) (W : World) : Prop where
  bel : Below w.heap.size w W
  lt : b < w.heap.size
  k5 : BoxAt W b [v0, v1, v2, v3, v4]
  s3 : BoxAt W w.heap.size [u0, u1, u2]
theorem BoxAt.drew {w : World} {b : Nat} {cs : List Value} (h : BoxAt w b cs) : BoxAt w.drew b cs := h.kept (Below.refl _ _).drew
section
variable {w W W' : World} {b : Nat} {v0 v1 v2 v3 v4 u0 u1 u2 : Value}
theorem Rg.kept (h : Rg w b v0 v1 v2 v3 v4 u0 u1 u2 W) (k : Below W.heap.size W W') : Rg w b v0 v1 v2 v3 v4 u0 u1 u2 W' := ⟨h.bel.trans (k.mono h.bel.size), h.lt, h.k5.kept k, h.s3.kept k⟩
theorem Rg.past (h : Rg w b v0 v1 v2 v3 v4 u0 u1 u2 W) (o : Obj) : Rg w b v0 v1 v2 v3 v4 u0 u1 u2 (W.alloc o) := h.kept ((Below.refl _ _).alloc (Nat.le_refl _) o)
theorem Rg.drew (h : Rg w b v0 v1 v2 v3 v4 u0 u1 u2 W) : Rg w b v0 v1 v2 v3 v4 u0 u1 u2 W.drew := ⟨h.bel.drew, h.lt, h.k5.drew, h.s3.drew⟩
theorem Turned.rg {p : Nat} (h : Turned p W W') (k : Rg w b v0 v1 v2 v3 v4 u0 u1 u2 W) (hp : w.heap.size < p) : Rg w b v0 v1 v2 v3 v4 u0 u1 u2 W' :=
  ⟨h.below k.bel (by omega), k.lt, h.box k.k5 (by have := k.lt; omega), h.box k.s3 (by omega)⟩
theorem Rg.box (h : Rg w b v0 v1 v2 v3 v4 u0 u1 u2 W) : W.cell? ⟨b, 0, none⟩ = some v0 ∧ W.cell? ⟨b, 1, none⟩ = some v1 ∧ W.cell? ⟨b, 2, none⟩ = some v2 ∧ W.cell? ⟨b, 3, none⟩ = some v3 ∧ W.cell? ⟨b, 4, none⟩ = some v4 ∧ W.cell? ⟨w.heap.size, 0, none⟩ = some u0 ∧ W.cell? ⟨w.heap.size, 1, none⟩ = some u1 ∧ W.cell? ⟨w.heap.size, 2, none⟩ = some u2 :=
  ⟨h.k5.2 0 _ rfl, h.k5.2 1 _ rfl, h.k5.2 2 _ rfl, h.k5.2 3 _ rfl, h.k5.2 4 _ rfl, h.s3.2 0 _ rfl, h.s3.2 1 _ rfl, h.s3.2 2 _ rfl⟩
end

/-- A call of three in a region that draws its order, by its contract. -/
theorem step_call3 {ops : Array Oper} {o : Oper} {a : Act} {w : World} {K : Act → World → Prop} {Q : Exit → Act → World → Prop} {E : Prop} (f : Nat) (ef : ∀ args w, (callFunc f args).run Tryd.prog w = .ok (.enter f args) w)
    (hw : Region.wanted o (yielded ops a.tmps) = true) (x y z : Operand) (ts : Array TypeId) (ho : o.op = .call { callee := .value (.func f), args := #[x, y, z], argTypes := ts }) (vx vy vz : Value) (hx : a.eval x = vx) (hy : a.eval y = vy) (hz : a.eval z = vz)
    {v : Value} (C : Calls Tryd.prog f #[vx, vy, vz] w fun e w' => e = .returned v ∧ Below w.heap.size w w') (h : ∀ r w', (r = v ∧ Below w.heap.size w w') → K (a.put o.dst r) w') :
    if Region.wanted o (yielded ops a.tmps) = true then Oper.wp Tryd.prog o a w K Q else E := by
  rw [if_pos hw]
  unfold Oper.wp execOp
  have e : a.eval (.func f) = .func (.func f) #[] #[] := rfl
  have hv : #[x, y, z].map a.eval = #[vx, vy, vz] := by simp [hx, hy, hz]
  simp only [ho, resolve, hv, e, Deferred.ofValue, invoke, Sem.run_bind, Sem.run_pure, Result.andThen_ok, Array.append_empty, ef]
  simp
  rw [Oper.upon_enter]
  refine C.mono ?_
  rintro e w' ⟨rfl, hR⟩
  exact h _ w' ⟨rfl, hR⟩

/-- A struct goes into a box of its own. -/
theorem step_store {ops : Array Oper} {o : Oper} {a : Act} {w : World} {K : Act → World → Prop} {Q : Exit → Act → World → Prop} {E : Prop} (ty : TypeId) (x y : Operand) (ho : o.op = .store ty x y)
    (hw : Region.wanted o (yielded ops a.tmps) = true) (b : Nat) (hx : a.eval x = .pointer (some ⟨b, 0, none⟩)) (cs : List Value) (hy : a.eval y = .agg cs.toArray) (hi : (Tryd.prog.info? ty).map (·.size) = some cs.length) (h1 : ∀ v ∈ cs, v.oneCell' = true)
    (old : List Value) (t : TypeId) (hv : VarAt w b old t) (hl : old.length = cs.length) (hs : splice old 0 cs = cs) (h : ∀ w', VarAt w' b cs t → Turned b w w' → K (a.put o.dst undef) w') :
    if Region.wanted o (yielded ops a.tmps) = true then Oper.wp Tryd.prog o a w K Q else E := by
  rw [if_pos hw]
  refine wp_store_mid ty x y ho b 0 cs.toArray hx hy ?_ (by simpa using hi) (all_oneCell_toArray h1) ?_
  · intro j hj
    refine ⟨?_, hv.frozen _⟩
    rw [hv.box.2 (0 + j) (old[0 + j]'(by simp at hj; omega)) (by simp)]
    rfl
  · refine h _ ?_ ?_
    · have := VarAt.sets cs 0 w old hv
      rwa [hs] at this
    · exact Turned.sets b cs 0 w
end Go.Proofs.YtdpbapoahfggeaaDoor
/- append of a whole row of structs that is only read, nil or not, onto a row that the call owns. -/
namespace Go.Proofs.YtdpbapoahfggeaaDoor
open Go.ChangeShapes Go.WideShapes Go.ChangeAt Go.RowKit Go.Deep
set_option linter.unusedVariables false

theorem flat_len {α : Type} (f : α → List Value) (s : Nat) (hs : ∀ x, (f x).length = s) (l : List α) : (l.flatMap f).length = l.length * s := by
  induction l with
  | nil => simp
  | cons a l ih => simp only [List.flatMap_cons, List.length_append, ih, hs, List.length_cons]; rw [Nat.add_mul]; omega
theorem flat_get {α : Type} (f : α → List Value) (s : Nat) (hs : ∀ x, (f x).length = s) (l : List α) (k : Nat) (x : α) (hk : l[k]? = some x) (j : Nat) (v : Value) (hj : (f x)[j]? = some v) : (l.flatMap f)[k * s + j]? = some v := by
  induction l generalizing k with
  | nil => simp at hk
  | cons a l ih =>
    have hjs : j < s := by
      have := (List.getElem?_eq_some_iff.1 hj).1
      rw [hs] at this
      exact this
    simp only [List.flatMap_cons, List.getElem?_append, hs]
    cases k with
    | zero =>
      simp at hk
      subst hk
      rw [if_pos (by omega)]
      simpa using hj
    | succ k =>
      have e : (k + 1) * s + j - s = k * s + j := by rw [Nat.add_mul]; omega
      rw [if_neg (by rw [Nat.add_mul]; omega), e]
      exact ih k (by simpa using hk)

theorem run_append_none (w : World) (t ty : TypeId) (base : Nat) (e : TypeId) (i : TypeInfo) (size : Nat) (ht : Tryd.prog.underlying t = some (.slice e)) (hi : Tryd.prog.info? e = some i)
    (v : Value) (n : Nat) (xs : List Value) (hown : w.ownsRow base e size v n xs) : (Builtin.append_ #[t, t] ty #[v, .slice none 0 0]).run Tryd.prog w = .ok v w := by
  rcases hown.2 with ⟨rfl, rfl⟩ | ⟨g, cap, cur, rfl, hbg, hg, hnc, hcm, hcs, htake⟩
  · simp [Builtin.append_, run_underlying ht, sizeOf, typeInfo, hi, Builtin.lenOf, Builtin.firstCells]
  · simp [Builtin.append_, run_underlying ht, sizeOf, typeInfo, hi, Builtin.lenOf, Builtin.firstCells, storeCells, hnc]

theorem run_append_row (w : World) (t ty : TypeId) (base : Nat) (e : TypeId) (i : TypeInfo) (z : Value) (size bytes : Nat) (ht : Tryd.prog.underlying t = some (.slice e)) (hi : Tryd.prog.info? e = some i) (hz : i.zero = some z)
    (hsize : i.size = size) (hby : i.bytes = bytes) (hzs : z.cells.size = size) (hsz : 0 < size)
    (v : Value) (n : Nat) (xs : List Value) (hown : w.ownsRow base e size v n xs) {α : Type} {cells : α → List Value} {ok : World → α → Prop} (hcs : ∀ x, (cells x).length = size) (u : Value) (l : List α) (hu : RowOf cells size ok w u l) (h1 : ∀ x ∈ l.flatMap cells, x.oneCell' = true)
    (h63 : n + l.length ≤ 2000000) (hbytes : bytes ≤ 1000) (hbase : base ≤ w.heap.size) :
    ∃ v' w', (Builtin.append_ #[t, t] ty #[v, u]).run Tryd.prog w = .ok v' w' ∧ w'.ownsRow base e size v' (n + l.length) (xs ++ l.flatMap cells) ∧ w.grownBy w' v.ownBlock ∧ (v'.ownBlock = v.ownBlock ∨ v'.ownBlock = some w.heap.size) := by
  obtain ⟨ad, cap, rfl, hlc, hcm, _, hnil, hel⟩ := hu
  cases ad with
  | none =>
    obtain ⟨rfl, rfl⟩ := hnil rfl
    exact ⟨v, w, run_append_none w t ty base e i size ht hi v n xs hown, by simpa using hown, ⟨rfl, rfl, rfl, Nat.le_refl _, fun _ _ _ => rfl⟩, .inl rfl⟩
  | some p =>
    have hmul : (n + l.length) * bytes ≤ 2000000 * 1000 := Nat.mul_le_mul h63 hbytes
    obtain ⟨v', w', hr, h2, h3, _, h5⟩ := run_append_own_at (P := Tryd.prog) w base t ty e i z size bytes ht hi hz hsize hby hzs hsz v n xs hown p l.length cap (l.flatMap cells) (flat_len cells size hcs l) (fun j x hx => by
      have hjl : j < l.length * size := by have := (List.getElem?_eq_some_iff.1 hx).1; rwa [flat_len cells size hcs l] at this
      have hq : j / size < l.length := Nat.div_lt_of_lt_mul (by rwa [Nat.mul_comm])
      have hm : j % size < size := Nat.mod_lt _ hsz
      have hlq : l[j / size]? = some l[j / size] := by simp [hq]
      have hcc : (cells l[j / size])[j % size]? = some ((cells l[j / size])[j % size]'(by rw [hcs]; exact hm)) := by simp
      have := flat_get cells size hcs l (j / size) _ hlq (j % size) _ hcc
      rw [show j / size * size + j % size = j by rw [Nat.mul_comm]; exact Nat.div_add_mod j size] at this
      rw [this] at hx
      cases hx
      obtain ⟨b, off, e1, hb, hr, _⟩ := hel (j / size) _ hlq
      cases e1
      have h := hr (j % size) _ hcc
      rw [Nat.add_assoc, show j / size * size + j % size = j by rw [Nat.mul_comm]; exact Nat.div_add_mod j size] at h
      simpa only [add_plain] using h) h1 (by simp only [maxLen]; omega) (by omega) hbase
    exact ⟨v', w', hr, h2, h3, h5⟩

theorem wp_append_row {w : World} {o : Oper} {a : Act} {K : Act → World → Prop} {Q : Exit → Act → World → Prop} (s x : Operand) (t : TypeId)
    (ho : o.op = .call { callee := .builtin .append, args := #[s, x], argTypes := #[t, t] })
    (base : Nat) (e : TypeId) (z : Value) (size bytes : Nat) (ht : Tryd.prog.underlying t = some (.slice e)) (hinf : (Tryd.prog.info? e).map (fun i => (i.zero, i.size, i.bytes)) = some (some z, size, bytes)) (hzs : z.cells.size = size) (hsz : 0 < size)
    (v : Value) (hs : a.eval s = v) (n : Nat) (xs : List Value) (hown : w.ownsRow base e size v n xs) (u : Value) (hx : a.eval x = u) {α : Type} {cells : α → List Value} {ok : World → α → Prop} (hcs : ∀ x, (cells x).length = size) (l : List α) (hu : RowOf cells size ok w u l) (h1 : ∀ x ∈ l.flatMap cells, x.oneCell' = true)
    (h63 : n + l.length ≤ 2000000) (hbytes : bytes ≤ 1000) (hbase : base ≤ w.heap.size)
    (h : ∀ v' w', w'.ownsRow base e size v' (n + l.length) (xs ++ l.flatMap cells) → w.grownBy w' v.ownBlock → (v'.ownBlock = v.ownBlock ∨ v'.ownBlock = some w.heap.size) → K (a.put o.dst v') w') : o.wp Tryd.prog a w K Q := by
  obtain ⟨i, hi, z0, z1, z2⟩ := info_parts hinf
  obtain ⟨v', w', hr, h2, h3, h4⟩ := run_append_row w t o.type base e i z size bytes ht hi z0 z1 z2 hzs hsz v n xs hown hcs u l hu h1 h63 hbytes hbase
  unfold Oper.wp execOp
  simp only [ho, resolve, invoke, builtin, Sem.run_bind, Sem.run_pure, Result.andThen_ok, List.map_toArray, List.map_cons, List.map_nil, hs, hx, hr]
  exact h v' w' h2 h3 h4

/-- In a plain region. -/
theorem wl_append_row {w : World} {ops : Array Oper} {rest : List Oper} {o : Oper} {a : Act} {Q : Exit → Act → World → Prop} (hgd : o.guard = none) (s x : Operand) (t : TypeId)
    (ho : o.op = .call { callee := .builtin .append, args := #[s, x], argTypes := #[t, t] })
    (base : Nat) (e : TypeId) (z : Value) (size bytes : Nat) (ht : Tryd.prog.underlying t = some (.slice e)) (hinf : (Tryd.prog.info? e).map (fun i => (i.zero, i.size, i.bytes)) = some (some z, size, bytes)) (hzs : z.cells.size = size) (hsz : 0 < size)
    (v : Value) (hs : a.eval s = v) (n : Nat) (xs : List Value) (hown : w.ownsRow base e size v n xs) (u : Value) (hx : a.eval x = u) {α : Type} {cells : α → List Value} {ok : World → α → Prop} (hcs : ∀ x, (cells x).length = size) (l : List α) (hu : RowOf cells size ok w u l) (h1 : ∀ x ∈ l.flatMap cells, x.oneCell' = true)
    (h63 : n + l.length ≤ 2000000) (hbytes : bytes ≤ 1000) (hbase : base ≤ w.heap.size)
    (h : ∀ v' w', w'.ownsRow base e size v' (n + l.length) (xs ++ l.flatMap cells) → w.grownBy w' v.ownBlock → (v'.ownBlock = v.ownBlock ∨ v'.ownBlock = some w.heap.size) → wpList Tryd.prog ops Q rest (a.put o.dst v') w') : wpList Tryd.prog ops Q (o :: rest) a w :=
  wpList_plain hgd fun _ hK => wp_append_row s x t ho base e z size bytes ht hinf hzs hsz v hs n xs hown u hx hcs l hu h1 h63 hbytes hbase fun v' w' h2 h3 h4 => hK _ _ (h v' w' h2 h3 h4)

theorem own_slice {w : World} {base : Nat} {e : TypeId} {size n : Nat} {v : Value} {xs : List Value} (h : w.ownsRow base e size v n xs) : ∃ p c, v = .slice p n c := by
  rcases h.2 with ⟨rfl, rfl⟩ | ⟨g, cap, cur, rfl, _⟩
  · exact ⟨_, _, rfl⟩
  · exact ⟨_, _, rfl⟩
end Go.Proofs.YtdpbapoahfggeaaDoor
