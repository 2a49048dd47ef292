/- The contracts of slices.Clone, of expressions and of statements. -/
import Derived.Test.YtfdfeiempeciiaaApp
import Derived.Test.YtfdfeiempeciiaaTwo
namespace Go.Proofs.Ytfdfeiempeciiaa
open Go.ChangeShapes Go.WideShapes Go.ChangeAt Go.RowKit
set_option linter.unusedVariables false

set_option maxRecDepth 100000 in
set_option maxHeartbeats 1000000 in
theorem clone59 (l : List Ex) (v : Value) (w : World) (F : Nat → Prop) (h : exsOk w F v l) (hl : l.length ≤ 1000000) :
    Calls Try.prog 59 #[v] w fun r w' => ∃ p c, r = .returned (.slice p l.length c) ∧ w'.ownsRow w.heap.size 46 9 (.slice p l.length c) l.length (l.flatMap Ex.cells) ∧ Below w.heap.size w w' := by
  have one : Hid (∀ x ∈ l.flatMap Ex.cells, x.oneCell' = true) := hid (fun x hx => by
    obtain ⟨s, hs, hx⟩ := List.mem_flatMap.1 hx
    exact (h.2 s hs).one x hx)
  rcases h.1.2 with ⟨rfl, h0⟩ | ⟨g, cap, cur, e, rfl, hF, hn, hg, htk⟩
  · have hl0 : l = [] := List.eq_nil_of_length_eq_zero h0
    subst hl0
    have En := fun (w : World) (a : Option Addr) (n c : Nat) => Lib.run_eql_slice_nil (P := Try.prog) w 44 46 a n c 0 0 Try.underlying44
    go_enter Try.func59, Try.ntmps59
    go_wp2_with fail
    go_ret
    exact ⟨none, 0, rfl, World.ownsRow_nil _ _ _ _, Below.refl _ _⟩
  · have ba : Hid (Below w.heap.size w (w.alloc (.cells #[] 46))) := hid ((Below.refl _ _).alloc (Nat.le_refl _) _)
    have R := hid (h.1.kept ba.out)
    clear h
    have En := fun (w : World) (a : Option Addr) (n c : Nat) => Lib.run_eql_slice_nil (P := Try.prog) w 44 46 a n c 0 0 Try.underlying44
    go_enter Try.func59, Try.ntmps59
    go_wp2_with (at_builtin; refine wl_append_row rfl _ _ 44 rfl w.heap.size 46 Ex.zero.val 9 104 Try.underlying44 info46 rfl (by omega) (.slice (some ⟨w.heap.size, 0, none⟩) 0 0) rfl 0 [] (own_empty w 46 9) _ rfl F l.length (l.flatMap Ex.cells) R.out one.out (by omega) (by omega) (by simp) ?_; intro v1 w1 o1 g1 k1; rw [Nat.zero_add, List.nil_append] at o1; obtain ⟨p1, c1, rfl⟩ := own_slice o1; replace o1 := hid o1; replace g1 := hid g1)
    go_ret
    exact ⟨p1, c1, rfl, o1.out, ba.out.trans ((Touch.of_grown (T := fun b => b = w.heap.size) g1.out (fun b hb => by simp [Value.ownBlock] at hb; omega)).below (fun b hb => ⟨by simp; omega, by omega⟩))⟩

set_option maxRecDepth 100000 in
set_option maxHeartbeats 1000000 in
theorem clone58 (l : List St) (v : Value) (w : World) (F : Nat → Prop) (h : stsOk w F v l) (hl : l.length ≤ 1000000) :
    Calls Try.prog 58 #[v] w fun r w' => ∃ p c, r = .returned (.slice p l.length c) ∧ w'.ownsRow w.heap.size 52 58 (.slice p l.length c) l.length (l.flatMap St.cells) ∧ Below w.heap.size w w' := by
  have one : Hid (∀ x ∈ l.flatMap St.cells, x.oneCell' = true) := hid (sts_one h.2)
  rcases h.1.2 with ⟨rfl, h0⟩ | ⟨g, cap, cur, e, rfl, hF, hn, hg, htk⟩
  · have hl0 : l = [] := List.eq_nil_of_length_eq_zero h0
    subst hl0
    have En := fun (w : World) (a : Option Addr) (n c : Nat) => Lib.run_eql_slice_nil (P := Try.prog) w 35 52 a n c 0 0 Try.underlying35
    go_enter Try.func58, Try.ntmps58
    go_wp2_with fail
    go_ret
    exact ⟨none, 0, rfl, World.ownsRow_nil _ _ _ _, Below.refl _ _⟩
  · have ba : Hid (Below w.heap.size w (w.alloc (.cells #[] 52))) := hid ((Below.refl _ _).alloc (Nat.le_refl _) _)
    have R := hid (h.1.kept ba.out)
    clear h
    have En := fun (w : World) (a : Option Addr) (n c : Nat) => Lib.run_eql_slice_nil (P := Try.prog) w 35 52 a n c 0 0 Try.underlying35
    go_enter Try.func58, Try.ntmps58
    go_wp2_with (at_builtin; refine wl_append_row rfl _ _ 35 rfl w.heap.size 52 St.zero.val 58 688 Try.underlying35 info52 rfl (by omega) (.slice (some ⟨w.heap.size, 0, none⟩) 0 0) rfl 0 [] (own_empty w 52 58) _ rfl F l.length (l.flatMap St.cells) R.out one.out (by omega) (by omega) (by simp) ?_; intro v1 w1 o1 g1 k1; rw [Nat.zero_add, List.nil_append] at o1; obtain ⟨p1, c1, rfl⟩ := own_slice o1; replace o1 := hid o1; replace g1 := hid g1)
    go_ret
    exact ⟨p1, c1, rfl, o1.out, ba.out.trans ((Touch.of_grown (T := fun b => b = w.heap.size) g1.out (fun b hb => by simp [Value.ownBlock] at hb; omega)).below (fun b hb => ⟨by simp; omega, by omega⟩))⟩
end Go.Proofs.Ytfdfeiempeciiaa
