/- Contracts of samePlace and sameRight. -/
import Derived.Test.YtfdfeiempeciiaaSame
namespace Go.Proofs.Ytfdfeiempeciiaa
open Go.ChangeShapes Go.WideShapes Go.ChangeAt Go.RowKit
set_option linter.unusedVariables false

theorem boxPl {w w' : World} {a b : Pl} (hb : Below ((w.alloc (.cells a.cells.toArray 48)).alloc (.cells b.cells.toArray 48)).heap.size ((w.alloc (.cells a.cells.toArray 48)).alloc (.cells b.cells.toArray 48)) w') :
    w'.cell? ⟨w.heap.size, 0, none⟩ = some (.int .i64 a.op) ∧ w'.cell? ⟨w.heap.size, 1, none⟩ = some (.string a.base) ∧ w'.cell? ⟨w.heap.size, 2, none⟩ = some (.string a.field) ∧ Hid (w'.rangeAt (w.heap.size) 3 a.index.cells) ∧ w'.cell? ⟨w.heap.size + 1, 0, none⟩ = some (.int .i64 b.op) ∧ w'.cell? ⟨w.heap.size + 1, 1, none⟩ = some (.string b.base) ∧ w'.cell? ⟨w.heap.size + 1, 2, none⟩ = some (.string b.field) ∧ Hid (w'.rangeAt (w.heap.size + 1) 3 b.index.cells) := by
  obtain ⟨x1, x2⟩ := box2 (xs := a.cells) (ys := b.cells) (t := 48) (u := 48) hb
  exact ⟨range_cell x1 0 rfl, range_cell x1 1 rfl, range_cell x1 2 rfl, hid (range_part x1 3 a.index.cells rfl), range_cell x2 0 rfl, range_cell x2 1 rfl, range_cell x2 2 rfl, hid (range_part x2 3 b.index.cells rfl)⟩

theorem boxRt {w w' : World} {a b : Rt} (hb : Below ((w.alloc (.cells a.cells.toArray 50)).alloc (.cells b.cells.toArray 50)).heap.size ((w.alloc (.cells a.cells.toArray 50)).alloc (.cells b.cells.toArray 50)) w') :
    w'.cell? ⟨w.heap.size, 0, none⟩ = some (.int .i64 a.op) ∧ w'.cell? ⟨w.heap.size, 24, none⟩ = some (.string a.nm) ∧ Hid (w'.rangeAt (w.heap.size) 1 a.e.cells) ∧ Hid (w'.rangeAt (w.heap.size) 10 a.place.cells) ∧ w'.cell? ⟨w.heap.size + 1, 0, none⟩ = some (.int .i64 b.op) ∧ w'.cell? ⟨w.heap.size + 1, 24, none⟩ = some (.string b.nm) ∧ Hid (w'.rangeAt (w.heap.size + 1) 1 b.e.cells) ∧ Hid (w'.rangeAt (w.heap.size + 1) 10 b.place.cells) := by
  obtain ⟨x1, x2⟩ := box2 (xs := a.cells) (ys := b.cells) (t := 50) (u := 50) hb
  exact ⟨range_cell x1 0 rfl, range_cell x1 24 rfl, hid (range_part x1 1 a.e.cells rfl), hid (range_part x1 10 a.place.cells rfl), range_cell x2 0 rfl, range_cell x2 24 rfl, hid (range_part x2 1 b.e.cells rfl), hid (range_part x2 10 b.place.cells rfl)⟩

theorem Pl.same_eq (a b : Pl) : a.same b = (a.op == b.op && (a.base.toList == b.base.toList && (a.field.toList == b.field.toList && a.index.same b.index))) := rfl
theorem Rt.same_eq (a b : Rt) : a.same b = (a.op == b.op && (a.nm.toList == b.nm.toList && (a.e.same b.e && a.place.same b.place))) := rfl

set_option maxRecDepth 100000 in
set_option maxHeartbeats 2000000 in
theorem samePlace_any (a b : Pl) (w : World) (F G : Nat → Prop) (ha : a.ok w F) (hb : b.ok w G) : Calls Try.prog 39 #[a.val, b.val] w fun e w' => e = .returned (.bool (a.same b)) ∧ Below w.heap.size w w' := by
  have E := hid (Pl.same_eq a b)
  have C := sameExpr_any a.index b.index ((w.alloc (.cells a.cells.toArray 48)).alloc (.cells b.cells.toArray 48)) F G (ha.2.kept (below_two _ _ _)) (hb.2.kept (below_two _ _ _))
  clear ha hb
  obtain ⟨a0, a1, a2, a3, b0, b1, b2, b3⟩ := boxPl (a := a) (b := b) (Below.refl _ ((w.alloc (.cells a.cells.toArray 48)).alloc (.cells b.cells.toArray 48)))
  generalize a.index.same b.index = r at *
  generalize a.same b = s at *
  unfold Pl.val
  go_enter Try.func39, Try.ntmps39
  go_wp2_with (first
    | refine wl_load 46 _ rfl rfl w.heap.size 3 rfl a.index.cells a3.out agg46 ?_
    | refine wl_load 46 _ rfl rfl (w.heap.size + 1) 3 rfl b.index.cells b3.out agg46 ?_
    | (go_at_call 14; refine C.mono ?_; rintro e w' ⟨rfl, hb⟩))
  all_goals go_ret
  all_goals first
    | exact ⟨ret_bool (by rw [E.out]; simp [*]), below_two _ _ _⟩
    | exact ⟨ret_bool (by rw [E.out]; simp [*]), Below.over (below_two _ _ _) hb⟩

set_option maxRecDepth 100000 in
set_option maxHeartbeats 2000000 in
theorem sameRight_any (a b : Rt) (w : World) (F G : Nat → Prop) (ha : a.ok w F) (hb : b.ok w G) : Calls Try.prog 38 #[a.val, b.val] w fun e w' => e = .returned (.bool (a.same b)) ∧ Below w.heap.size w w' := by
  have E := hid (Rt.same_eq a b)
  have C := sameExpr_any a.e b.e ((w.alloc (.cells a.cells.toArray 50)).alloc (.cells b.cells.toArray 50)) F G (ha.2.1.kept (below_two _ _ _)) (hb.2.1.kept (below_two _ _ _))
  have D := fun W (hW : Below ((w.alloc (.cells a.cells.toArray 50)).alloc (.cells b.cells.toArray 50)).heap.size ((w.alloc (.cells a.cells.toArray 50)).alloc (.cells b.cells.toArray 50)) W) => samePlace_any a.place b.place W F G (Pl.ok.kept ha.2.2 (Below.over (below_two _ _ _) hW)) (Pl.ok.kept hb.2.2 (Below.over (below_two _ _ _) hW))
  clear ha hb
  obtain ⟨a0, a1, a2, a3, b0, b1, b2, b3⟩ := boxRt (a := a) (b := b) (Below.refl _ ((w.alloc (.cells a.cells.toArray 50)).alloc (.cells b.cells.toArray 50)))
  generalize a.e.same b.e = r at *
  generalize a.place.same b.place = r' at *
  generalize a.same b = s at *
  unfold Rt.val
  go_enter Try.func38, Try.ntmps38
  go_wp2_with (first
    | refine wl_load 46 _ rfl rfl w.heap.size 1 rfl a.e.cells a2.out agg46 ?_
    | refine wl_load 46 _ rfl rfl (w.heap.size + 1) 1 rfl b.e.cells b2.out agg46 ?_
    | (go_at_call 14; refine C.mono ?_; rintro e w' ⟨rfl, hb⟩; obtain ⟨-, -, -, d3, -, -, -, d4⟩ := boxRt hb)
    | refine wl_load 48 _ rfl rfl w.heap.size 10 rfl a.place.cells d3.out agg48 ?_
    | refine wl_load 48 _ rfl rfl (w.heap.size + 1) 10 rfl b.place.cells d4.out agg48 ?_
    | (go_at_call 39; refine (D _ hb).mono ?_; rintro e w'' ⟨rfl, hb2⟩))
  all_goals go_ret
  all_goals first
    | exact ⟨ret_bool (by rw [E.out]; simp [*]), below_two _ _ _⟩
    | exact ⟨ret_bool (by rw [E.out]; simp [*]), Below.over (Below.over (below_two _ _ _) hb) hb2⟩
    | exact ⟨ret_bool (by rw [E.out]; simp [*]), Below.over (below_two _ _ _) hb⟩
end Go.Proofs.Ytfdfeiempeciiaa
