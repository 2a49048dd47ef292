/- Contracts of fieldsCanBe. -/
import Derived.Test.YtkdpcaoocmbbhaaDoorFldA
namespace Go.Proofs.YtkdpcaoocmbbhaaDoor
open Go.ChangeShapes Go.WideShapes Go.ChangeAt Go.RowKit
set_option linter.unusedVariables false
set_option linter.unusedSimpArgs false

set_option maxHeartbeats 1000000 in
theorem number58 (named g : Bool) (n : Int) (p : Value) (w : World) (C : ∀ W, Below w.heap.size w W → Calls Tryd.prog 82 #[.int .i64 n, p] W fun e w' => e = .returned (.bool g) ∧ Below W.heap.size W w') :
    Calls Tryd.prog 86 #[.bool named, .int .i64 n, .func (.func 82) #[] #[p]] w fun e w' => e = .returned (.bool (fld named g (n == 0))) ∧ Below w.heap.size w w' := by
  replace C := hid (C w (Below.refl _ _))
  cases named
  · clear C
    go_enter Tryd.func86, Tryd.ntmps86
    go_wp2
    go_ret
    exact ⟨rfl, Below.refl _ _⟩
  · cases g
    · go_enter Tryd.func86, Tryd.ntmps86
      go_wp2_with (go_at_call 82; refine Calls.mono C.out ?_; rintro e w' ⟨rfl, hb'⟩)
      go_ret
      exact ⟨rfl, hb'⟩
    · go_enter Tryd.func86, Tryd.ntmps86
      go_wp2_with (go_at_call 82; refine Calls.mono C.out ?_; rintro e w' ⟨rfl, hb'⟩)
      go_ret
      exact ⟨rfl, hb'⟩

set_option maxHeartbeats 1000000 in
theorem number60 (named g : Bool) (n : Int) (p : Value) (w : World) (C : ∀ W, Below w.heap.size w W → Calls Tryd.prog 84 #[.int .i64 n, p] W fun e w' => e = .returned (.bool g) ∧ Below W.heap.size W w') :
    Calls Tryd.prog 86 #[.bool named, .int .i64 n, .func (.func 84) #[] #[p]] w fun e w' => e = .returned (.bool (fld named g (n == 0))) ∧ Below w.heap.size w w' := by
  replace C := hid (C w (Below.refl _ _))
  cases named
  · clear C
    go_enter Tryd.func86, Tryd.ntmps86
    go_wp2
    go_ret
    exact ⟨rfl, Below.refl _ _⟩
  · cases g
    · go_enter Tryd.func86, Tryd.ntmps86
      go_wp2_with (go_at_call 84; refine Calls.mono C.out ?_; rintro e w' ⟨rfl, hb'⟩)
      go_ret
      exact ⟨rfl, hb'⟩
    · go_enter Tryd.func86, Tryd.ntmps86
      go_wp2_with (go_at_call 84; refine Calls.mono C.out ?_; rintro e w' ⟨rfl, hb'⟩)
      go_ret
      exact ⟨rfl, hb'⟩

set_option maxHeartbeats 1000000 in
theorem number61 (named g : Bool) (n : Int) (p q : Value) (w : World) (C : ∀ W, Below w.heap.size w W → Calls Tryd.prog 85 #[.int .i64 n, p, q] W fun e w' => e = .returned (.bool g) ∧ Below W.heap.size W w') :
    Calls Tryd.prog 86 #[.bool named, .int .i64 n, .func (.func 85) #[] #[p, q]] w fun e w' => e = .returned (.bool (fld named g (n == 0))) ∧ Below w.heap.size w w' := by
  replace C := hid (C w (Below.refl _ _))
  cases named
  · clear C
    go_enter Tryd.func86, Tryd.ntmps86
    go_wp2
    go_ret
    exact ⟨rfl, Below.refl _ _⟩
  · cases g
    · go_enter Tryd.func86, Tryd.ntmps86
      go_wp2_with (go_at_call 85; refine Calls.mono C.out ?_; rintro e w' ⟨rfl, hb'⟩)
      go_ret
      exact ⟨rfl, hb'⟩
    · go_enter Tryd.func86, Tryd.ntmps86
      go_wp2_with (go_at_call 85; refine Calls.mono C.out ?_; rintro e w' ⟨rfl, hb'⟩)
      go_ret
      exact ⟨rfl, hb'⟩

set_option maxHeartbeats 1000000 in
theorem row_any (named : Bool) (v : Value) (xs : List Itm) (b : Nat) (a5 : Option Addr) (n5 p5 : Nat) (rv gv tv ev cv tv5 dv mv : Value) (w : World) (hx : Items w v xs) (hn : xs.length ≤ 1000000) (hn5 : n5 ≤ 1000000)
    (hb : BoxAt w b [rv, gv, tv, ev, cv, tv5, .slice a5 n5 p5, dv, mv]) :
    Calls Tryd.prog 87 #[.bool named, v, .pointer (some ⟨b, 0, none⟩)] w fun e w' => e = .returned (.bool (fld named (goodB n5 xs) (decide (xs.length = 0)))) ∧ Below w.heap.size w w' := by
  obtain ⟨a, cap, rfl, hI⟩ := hx.at
  have c6 := hb.2 6 _ rfl
  have C := good_any (n5 : Int) a xs.length cap xs w rfl hI hn (by omega) (by omega)
  clear hb hx hI
  generalize hxl : xs.length = xl at *
  replace hxl := hid hxl
  cases named
  · have F : Hid (fld false (goodB n5 xs) (decide (xl = 0)) = ((xl : Int) == 0)) := hid (by
      show decide (xl = 0) = _
      rw [Bool.eq_iff_iff]; simp)
    rw [F.out]
    clear C
    go_enter Tryd.func87, Tryd.ntmps87
    go_wp2
    go_ret
    exact ⟨rfl, Below.refl _ _⟩
  · show Calls Tryd.prog 87 _ w fun e w' => e = .returned (.bool (goodB n5 xs)) ∧ Below w.heap.size w w'
    cases hg : goodB n5 xs
    · rw [hg] at C
      replace C := hid C
      go_enter Tryd.func87, Tryd.ntmps87
      go_wp2_with (go_at_call 88; refine Calls.mono C.out ?_; rintro e w' ⟨rfl, hb'⟩)
      go_ret
      exact ⟨rfl, hb'⟩
    · rw [hg] at C
      replace C := hid C
      go_enter Tryd.func87, Tryd.ntmps87
      go_wp2_with (go_at_call 88; refine Calls.mono C.out ?_; rintro e w' ⟨rfl, hb'⟩)
      go_ret
      exact ⟨rfl, hb'⟩

end Go.Proofs.YtkdpcaoocmbbhaaDoor
