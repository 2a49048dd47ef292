/- Contracts of fits and localsCanBe. -/
import Derived.Test.YtdpbapoahfggeaaDoorNoA
import Derived.Test.YtdpbapoahfggeaaDoorNoB
namespace Go.Proofs.YtdpbapoahfggeaaDoor
open Go.ChangeShapes Go.WideShapes Go.ChangeAt Go.RowKit
set_option linter.unusedVariables false
set_option linter.unusedSimpArgs false

/-- A value in a box of its own: a struct's cells. -/
def BoxAt (w : World) (b : Nat) (cs : List Value) : Prop := b < w.heap.size ∧ ∀ k u, cs[k]? = some u → w.cell? ⟨b, k, none⟩ = some u
theorem BoxAt.kept {w w' : World} {b : Nat} {cs : List Value} (h : BoxAt w b cs) (hb : Below w.heap.size w w') : BoxAt w' b cs :=
  ⟨Nat.lt_of_lt_of_le h.1 hb.size, fun k u hk => by rw [hb.cell (p := ⟨b, k, none⟩) h.1]; exact h.2 k u hk⟩
theorem BoxAt.new (w : World) (cs : Array Value) (t : TypeId) : BoxAt (w.alloc (.cells cs t)) w.heap.size cs.toList := ⟨by simp, fun k u hk => new_cell _ _ _ _ _ (by simpa using hk)⟩
theorem BoxAt.past {w : World} {b : Nat} {cs : List Value} (h : BoxAt w b cs) (o : Obj) : BoxAt (w.alloc o) b cs := h.kept ((Below.refl _ _).alloc (Nat.le_refl _) o)


set_option maxHeartbeats 1000000 in
theorem long_any (a : Option Addr) (n cap : Nat) (j : Int) (w : World) : Calls Tryd.prog 44 #[.int .i64 j, .slice a n cap] w (AnsN (n ≤ 6) w) := by
  by_cases h : n ≤ 6
  · have h' : (n : Int) ≤ 6 := by omega
    go_enter Tryd.func44, Tryd.ntmps44
    go_wp2
    go_ret
    exact exN (by simp; omega) (Below.refl _ _)
  · have h' : 6 < (n : Int) := by omega
    go_enter Tryd.func44, Tryd.ntmps44
    go_wp2
    go_ret
    exact exN (by simp; omega) (Below.refl _ _)

set_option maxHeartbeats 1000000 in
theorem wrong_any (b : Nat) (a : Option Addr) (n cap : Nat) (gv tv ev cv : Value) (j : Int) (l : Loc) (w : World) (hb : BoxAt w b [.slice a n cap, gv, tv, ev, cv]) :
    Calls Tryd.prog 45 #[.int .i64 j, .agg #[.int .i64 l.kind, .int .i64 l.rc, .bool l.once], .pointer (some ⟨b, 0, none⟩)] w fun e w' => e = .returned (.bool (!locOk n l)) ∧ Below w.heap.size w w' := by
  have c0 := hb.2 0 _ rfl
  have c1 := hb.2 1 _ rfl
  have c2 := hb.2 2 _ rfl
  have c3 := hb.2 3 _ rfl
  have c4 := hb.2 4 _ rfl
  have hlt := hb.1
  clear hb
  have C := hid (fun W => localCan_any a n cap gv tv ev cv l W)
  go_enter Tryd.func45, Tryd.ntmps45
  go_wp2_with (go_at_call 46; refine Calls.mono (C.out _) ?_; rintro e w' ⟨rfl, hb'⟩)
  go_ret
  exact ⟨rfl, bover ((Below.refl _ _).alloc (Nat.le_refl _) _) hb'⟩

set_option maxHeartbeats 1000000 in
theorem wrongCell_any (b b2 : Nat) (a : Option Addr) (n cap : Nat) (gv tv ev cv : Value) (j : Int) (l : Loc) (w : World) (hb : BoxAt w b [.slice a n cap, gv, tv, ev, cv]) (h2 : BoxAt w b2 [.func (.func 45) #[] #[.pointer (some ⟨b, 0, none⟩)]]) :
    Calls Tryd.prog 47 #[.int .i64 j, .agg #[.int .i64 l.kind, .int .i64 l.rc, .bool l.once], .pointer (some ⟨b2, 0, none⟩)] w fun e w' => e = .returned (.bool (!cellOk n l)) ∧ Below w.heap.size w w' := by
  obtain ⟨k, r, o⟩ := l
  have c0 := h2.2 0 _ rfl
  have hlt := h2.1
  have C := hid (wrong_any b a n cap gv tv ev cv j ⟨k, r, o⟩ (w.alloc (.cells #[.int .i64 k, .int .i64 r, .bool o] 60)) (hb.past _))
  clear hb h2
  go_enter Tryd.func47, Tryd.ntmps47
  cases o
  · go_wp2_with (go_at_call 45; refine Calls.mono C.out ?_; rintro e w' ⟨rfl, hb'⟩)
    go_ret
    exact ⟨rfl, bover ((Below.refl _ _).alloc (Nat.le_refl _) _) hb'⟩
  · go_wp2_with (go_at_call 45; refine Calls.mono C.out ?_; rintro e w' ⟨rfl, hb'⟩)
    go_ret
    exact ⟨rfl, (Below.refl _ _).alloc (Nat.le_refl _) _⟩

set_option maxHeartbeats 1000000 in
theorem fldsWrong_any (b b2 b3 : Nat) (a : Option Addr) (n cap : Nat) (gv tv ev cv : Value) (j : Int) (v : Value) (l : List Loc) (w : World) (hl : Locs w v l) (hn : l.length ≤ 1000000) (hb : BoxAt w b [.slice a n cap, gv, tv, ev, cv]) (h2 : BoxAt w b2 [.func (.func 45) #[] #[.pointer (some ⟨b, 0, none⟩)]]) (h3 : BoxAt w b3 [.func (.func 47) #[] #[.pointer (some ⟨b2, 0, none⟩)]]) :
    Calls Tryd.prog 49 #[.int .i64 j, v, .pointer (some ⟨b3, 0, none⟩)] w (AnsN (∀ (i : Nat) (x : Loc), l[i]? = some x → cellOk n x = true) w) := by
  have c0 := h3.2 0 _ rfl
  have hlt := h3.1
  have C := hid (none29_28 v l (fun _ x => cellOk n x = true) (.pointer (some ⟨b2, 0, none⟩)) w hl hn (fun W j x h _ _ => (wrongCell_any b b2 a n cap gv tv ev cv j x W (hb.kept h) (h2.kept h)).mono (by rintro e w' ⟨rfl, h'⟩; exact exN (by simp) h')))
  clear hb h2 h3 hl
  go_enter Tryd.func49, Tryd.ntmps49
  go_wp2_with (go_at_call 48; refine Calls.mono C.out ?_; rintro e w' ⟨q, rfl, hq, hb'⟩; replace hq := hid hq)
  go_ret
  exact exN (by rw [← hq.out]; simp) hb'

set_option maxHeartbeats 1000000 in
theorem slotsWrong_any (b b2 : Nat) (a : Option Addr) (n cap : Nat) (gv tv ev cv : Value) (j : Int) (x : Bd) (w : World) (hl : Locs w x.sv x.slots) (hn : x.slots.length ≤ 1000000) (hb : BoxAt w b [.slice a n cap, gv, tv, ev, cv]) (h2 : BoxAt w b2 [.func (.func 45) #[] #[.pointer (some ⟨b, 0, none⟩)]]) :
    Calls Tryd.prog 51 #[.int .i64 j, .agg #[x.sv, x.cv, .int .i64 x.most], .pointer (some ⟨b2, 0, none⟩)] w (AnsN (∀ (i : Nat) (y : Loc), x.slots[i]? = some y → locOk n y = true) w) := by
  have c0 := h2.2 0 _ rfl
  have hlt := h2.1
  have C := hid (none29_26 x.sv x.slots (fun _ y => locOk n y = true) (.pointer (some ⟨b, 0, none⟩)) (w.alloc (.cells #[x.sv, x.cv, .int .i64 x.most] 55)) (Locs.kept hl ((Below.refl _ _).alloc (Nat.le_refl _) _)) hn
    (fun W j y h _ _ => (wrong_any b a n cap gv tv ev cv j y W ((hb.past _).kept h)).mono (by rintro e w' ⟨rfl, h'⟩; exact exN (by simp) h')))
  clear hb h2 hl
  go_enter Tryd.func51, Tryd.ntmps51
  go_wp2_with (go_at_call 48; refine Calls.mono C.out ?_; rintro e w' ⟨q, rfl, hq, hb'⟩; replace hq := hid hq)
  go_ret
  exact exN (by rw [← hq.out]; simp) (bover ((Below.refl _ _).alloc (Nat.le_refl _) _) hb')

end Go.Proofs.YtdpbapoahfggeaaDoor
