/- Contracts of SameStmt and Stmts. -/
import Derived.Test.YtfdfeiempeciiaaSamePl
import Derived.Test.YtfdfeiempeciiaaEqs3
namespace Go.Proofs.Ytfdfeiempeciiaa
open Go.ChangeShapes Go.WideShapes Go.ChangeAt Go.RowKit
set_option linter.unusedVariables false

theorem boxSt {w w' : World} {a b : St} (hb : Below ((w.alloc (.cells a.cells.toArray 52)).alloc (.cells b.cells.toArray 52)).heap.size ((w.alloc (.cells a.cells.toArray 52)).alloc (.cells b.cells.toArray 52)) w') :
    w'.cell? ⟨w.heap.size, 0, none⟩ = some (.int .i64 a.op) ∧ w'.cell? ⟨w.heap.size, 1, none⟩ = some (.string a.nm) ∧ w'.cell? ⟨w.heap.size, 52, none⟩ = some (.int .i64 a.n) ∧ w'.cell? ⟨w.heap.size, 53, none⟩ = some (a.av) ∧ w'.cell? ⟨w.heap.size, 54, none⟩ = some (a.bv) ∧ w'.cell? ⟨w.heap.size, 55, none⟩ = some (a.ev) ∧ Hid (w'.rangeAt (w.heap.size) 2 a.right.cells) ∧ Hid (w'.rangeAt (w.heap.size) 29 a.place.cells) ∧ Hid (w'.rangeAt (w.heap.size) 43 a.e.cells) ∧ w'.cell? ⟨w.heap.size + 1, 0, none⟩ = some (.int .i64 b.op) ∧ w'.cell? ⟨w.heap.size + 1, 1, none⟩ = some (.string b.nm) ∧ w'.cell? ⟨w.heap.size + 1, 52, none⟩ = some (.int .i64 b.n) ∧ w'.cell? ⟨w.heap.size + 1, 53, none⟩ = some (b.av) ∧ w'.cell? ⟨w.heap.size + 1, 54, none⟩ = some (b.bv) ∧ w'.cell? ⟨w.heap.size + 1, 55, none⟩ = some (b.ev) ∧ Hid (w'.rangeAt (w.heap.size + 1) 2 b.right.cells) ∧ Hid (w'.rangeAt (w.heap.size + 1) 29 b.place.cells) ∧ Hid (w'.rangeAt (w.heap.size + 1) 43 b.e.cells) := by
  obtain ⟨x1, x2⟩ := box2 (xs := a.cells) (ys := b.cells) (t := 52) (u := 52) hb
  exact ⟨range_cell x1 0 rfl, range_cell x1 1 rfl, range_cell x1 52 rfl, range_cell x1 53 rfl, range_cell x1 54 rfl, range_cell x1 55 rfl, hid (range_part x1 2 a.right.cells rfl), hid (range_part x1 29 a.place.cells rfl), hid (range_part x1 43 a.e.cells rfl), range_cell x2 0 rfl, range_cell x2 1 rfl, range_cell x2 52 rfl, range_cell x2 53 rfl, range_cell x2 54 rfl, range_cell x2 55 rfl, hid (range_part x2 2 b.right.cells rfl), hid (range_part x2 29 b.place.cells rfl), hid (range_part x2 43 b.e.cells rfl)⟩

set_option maxRecDepth 100000 in
set_option maxHeartbeats 20000000 in
theorem sameStmt_step (a b : St) (w : World) (F G : Nat → Prop) (ha : a.head w F) (hb : b.head w G)
    (C1 : ∀ W, Below ((w.alloc (.cells a.cells.toArray 52)).alloc (.cells b.cells.toArray 52)).heap.size ((w.alloc (.cells a.cells.toArray 52)).alloc (.cells b.cells.toArray 52)) W → Calls Try.prog 12 #[a.bv, b.bv] W fun e w' => e = .returned (.bool (eqL St.same a.body b.body)) ∧ Below W.heap.size W w')
    (C2 : ∀ W, Below ((w.alloc (.cells a.cells.toArray 52)).alloc (.cells b.cells.toArray 52)).heap.size ((w.alloc (.cells a.cells.toArray 52)).alloc (.cells b.cells.toArray 52)) W → Calls Try.prog 12 #[a.ev, b.ev] W fun e w' => e = .returned (.bool (eqL St.same a.els b.els)) ∧ Below W.heap.size W w') :
    Calls Try.prog 16 #[a.val, b.val] w fun e w' => e = .returned (.bool (a.same b)) ∧ Below w.heap.size w w' := by
  have E := hid (St.same_eq a b)
  have k := below_two w (.cells a.cells.toArray 52) (.cells b.cells.toArray 52)
  obtain ⟨-, A1, A2, A3, A4, -, -⟩ := ha
  obtain ⟨-, B1, B2, B3, B4, -, -⟩ := hb
  have D1 := sameRight_any a.right b.right ((w.alloc (.cells a.cells.toArray 52)).alloc (.cells b.cells.toArray 52)) F G (Rt.ok.kept A1 k) (Rt.ok.kept B1 k)
  have D2 := fun W (hW : Below ((w.alloc (.cells a.cells.toArray 52)).alloc (.cells b.cells.toArray 52)).heap.size ((w.alloc (.cells a.cells.toArray 52)).alloc (.cells b.cells.toArray 52)) W) => samePlace_any a.place b.place W F G (Pl.ok.kept A2 (Below.over k hW)) (Pl.ok.kept B2 (Below.over k hW))
  have D3 := fun W (hW : Below ((w.alloc (.cells a.cells.toArray 52)).alloc (.cells b.cells.toArray 52)).heap.size ((w.alloc (.cells a.cells.toArray 52)).alloc (.cells b.cells.toArray 52)) W) => sameExpr_any a.e b.e W F G (A3.kept (Below.over k hW)) (B3.kept (Below.over k hW))
  have D4 := fun W (hW : Below ((w.alloc (.cells a.cells.toArray 52)).alloc (.cells b.cells.toArray 52)).heap.size ((w.alloc (.cells a.cells.toArray 52)).alloc (.cells b.cells.toArray 52)) W) => exprs_any a.args b.args a.av b.av W F G (A4.kept (Below.over k hW)) (B4.kept (Below.over k hW))
  clear A1 A2 A3 A4 B1 B2 B3 B4 k
  obtain ⟨a0, a1, a2, a3, a4, a5, a6, a7, a8, b0, b1, b2, b3, b4, b5, b6, b7, b8⟩ := boxSt (a := a) (b := b) (Below.refl _ ((w.alloc (.cells a.cells.toArray 52)).alloc (.cells b.cells.toArray 52)))
  generalize a.right.same b.right = r1 at *
  generalize a.place.same b.place = r2 at *
  generalize a.e.same b.e = r3 at *
  generalize eqL Ex.same a.args b.args = r4 at *
  generalize eqL St.same a.body b.body = r5 at *
  generalize eqL St.same a.els b.els = r6 at *
  generalize a.same b = s at *
  unfold St.val
  go_enter Try.func16, Try.ntmps16
  go_wp2_with (first
    | refine wl_load 50 _ rfl (by kernel_rfl) w.heap.size 2 rfl a.right.cells a6.out a.right.agg ?_
    | refine wl_load 50 _ rfl (by kernel_rfl) (w.heap.size + 1) 2 rfl b.right.cells b6.out b.right.agg ?_
    | (go_at_call 38; refine D1.mono ?_; clear D1; rintro e w1 ⟨rfl, hb1⟩; obtain ⟨-, -, -, -, -, -, -, c7, -, -, -, -, -, -, -, -, d7, -⟩ := boxSt hb1)
    | refine wl_load 48 _ rfl (by kernel_rfl) w.heap.size 29 rfl a.place.cells c7.out a.place.agg ?_
    | refine wl_load 48 _ rfl (by kernel_rfl) (w.heap.size + 1) 29 rfl b.place.cells d7.out b.place.agg ?_
    | (go_at_call 39; refine (D2 _ hb1).mono ?_; clear D2; rintro e w2 ⟨rfl, hb⟩; have hb2 := Below.over hb1 hb; clear hb; obtain ⟨-, -, -, -, -, -, -, -, c8, -, -, -, -, -, -, -, -, d8⟩ := boxSt hb2)
    | refine wl_load 46 _ rfl (by kernel_rfl) w.heap.size 43 rfl a.e.cells c8.out a.e.agg ?_
    | refine wl_load 46 _ rfl (by kernel_rfl) (w.heap.size + 1) 43 rfl b.e.cells d8.out b.e.agg ?_
    | (go_at_call 14; refine (D3 _ hb2).mono ?_; clear D3; rintro e w3 ⟨rfl, hb⟩; have hb3 := Below.over hb2 hb; clear hb; obtain ⟨-, -, -, c3, -, -, -, -, -, -, -, -, d3, -, -, -, -, -⟩ := boxSt hb3)
    | (go_at_call 21; refine (D4 _ hb3).mono ?_; clear D4; rintro e w4 ⟨rfl, hb⟩; have hb4 := Below.over hb3 hb; clear hb; obtain ⟨-, -, -, -, c4, -, -, -, -, -, -, -, -, d4, -, -, -, -⟩ := boxSt hb4)
    | (go_at_call 12; refine (C1 _ hb4).mono ?_; clear C1; rintro e w5 ⟨rfl, hb⟩; have hb5 := Below.over hb4 hb; clear hb; obtain ⟨-, -, -, -, -, c5, -, -, -, -, -, -, -, -, d5, -, -, -⟩ := boxSt hb5)
    | (go_at_call 12; refine (C2 _ hb5).mono ?_; rintro e w6 ⟨rfl, hb⟩; have hb6 := Below.over hb5 hb; clear hb))
  all_goals go_ret
  all_goals first
    | exact ⟨ret_bool (by rw [E.out]; simp [*]), Below.over (below_two _ _ _) hb6⟩
    | exact ⟨ret_bool (by rw [E.out]; simp [*]), Below.over (below_two _ _ _) hb5⟩
    | exact ⟨ret_bool (by rw [E.out]; simp [*]), Below.over (below_two _ _ _) hb4⟩
    | exact ⟨ret_bool (by rw [E.out]; simp [*]), Below.over (below_two _ _ _) hb3⟩
    | exact ⟨ret_bool (by rw [E.out]; simp [*]), Below.over (below_two _ _ _) hb2⟩
    | exact ⟨ret_bool (by rw [E.out]; simp [*]), Below.over (below_two _ _ _) hb1⟩
    | exact ⟨ret_bool (by rw [E.out]; simp [*]), below_two _ _ _⟩

set_option maxRecDepth 100000 in
theorem stmts_step (p : St → St → Bool) (l m : List St) (v u : Value) (w : World) (F G : Nat → Prop) (hl : RowAt w F 58 v l.length (l.flatMap St.cells)) (hm : RowAt w G 58 u m.length (m.flatMap St.cells))
    (h1 : ∀ x ∈ l, ∀ c ∈ x.cells, c.oneCell' = true) (h2 : ∀ x ∈ m, ∀ c ∈ x.cells, c.oneCell' = true)
    (C : ∀ x ∈ l, ∀ y ∈ m, ∀ W, Below w.heap.size w W → Calls Try.prog 16 #[x.val, y.val] W fun e w' => e = .returned (.bool (p x y)) ∧ Below W.heap.size W w') :
    Calls Try.prog 12 #[v, u] w fun e w' => e = .returned (.bool (eqL p l m)) ∧ Below w.heap.size w w' := by
  have E := equal36 p l m v u w F G hl hm h1 h2 C
  obtain ⟨pv, cv, rfl⟩ := hl.form
  obtain ⟨pu, cu, rfl⟩ := hm.form
  go_enter Try.func12, Try.ntmps12
  go_wp2_with (go_at_call 36; refine E.mono ?_; rintro e w' ⟨rfl, hb⟩)
  go_ret
  exact ⟨rfl, hb⟩

theorem sameStmt_any (a b : St) (w : World) (F G : Nat → Prop) (ha : a.ok w F) (hb : b.ok w G) : Calls Try.prog 16 #[a.val, b.val] w fun e w' => e = .returned (.bool (a.same b)) ∧ Below w.heap.size w w' := by
  induction a using St.ind generalizing b w with
  | h a ih1 ih2 =>
    have k := below_two w (.cells a.cells.toArray 52) (.cells b.cells.toArray 52)
    refine sameStmt_step a b w F G ha.hd hb.hd (fun W hW => ?_) (fun W hW => ?_)
    · have k := Below.over k hW
      exact stmts_step St.same a.body b.body a.bv b.bv _ F G (ha.hd.2.2.2.2.2.1.kept k) (hb.hd.2.2.2.2.2.1.kept k) (fun x hx => (ha.bodies x hx).hd.one) (fun x hx => (hb.bodies x hx).hd.one)
        (fun x hx y hy V hV => ih1 x hx y V ((ha.bodies x hx).kept (Below.over k hV)) ((hb.bodies y hy).kept (Below.over k hV)))
    · have k := Below.over k hW
      exact stmts_step St.same a.els b.els a.ev b.ev _ F G (ha.hd.2.2.2.2.2.2.kept k) (hb.hd.2.2.2.2.2.2.kept k) (fun x hx => (ha.elses x hx).hd.one) (fun x hx => (hb.elses x hx).hd.one)
        (fun x hx y hy V hV => ih2 x hx y V ((ha.elses x hx).kept (Below.over k hV)) ((hb.elses y hy).kept (Below.over k hV)))

theorem stmts_any (l m : List St) (v u : Value) (w : World) (F G : Nat → Prop) (ha : stsOk w F v l) (hb : stsOk w G u m) : Calls Try.prog 12 #[v, u] w fun e w' => e = .returned (.bool (eqL St.same l m)) ∧ Below w.heap.size w w' :=
  stmts_step St.same l m v u w F G ha.1 hb.1 (fun x hx => (ha.2 x hx).hd.one) (fun x hx => (hb.2 x hx).hd.one) (fun x hx y hy W hW => sameStmt_any x y W F G ((ha.2 x hx).kept hW) ((hb.2 y hy).kept hW))
end Go.Proofs.Ytfdfeiempeciiaa
