/- Contracts of sameNamed, sameRecord, sameFun, sameThread. -/
import Derived.Test.YtfdfeiempeciiaaSameSt
import Derived.Test.YtfdfeiempeciiaaEqs
import Derived.Test.YtfdfeiempeciiaaEqs2
namespace Go.Proofs.Ytfdfeiempeciiaa
open Go.ChangeShapes Go.WideShapes Go.ChangeAt Go.RowKit
set_option linter.unusedVariables false

theorem Nm.same_eq (a b : Nm) : a.same b = (a.nm.toList == b.nm.toList && (a.tk == b.tk && a.tr.toList == b.tr.toList)) := rfl
theorem Rc.same_eq (a b : Rc) : a.same b = (a.nm.toList == b.nm.toList && eqL Nm.same a.fields b.fields) := rfl
theorem Fn.same_eq (a b : Fn) : a.same b = (a.nm.toList == b.nm.toList && (eqL Nm.same a.params b.params && eqL St.same a.body b.body)) := rfl
theorem Pg.same_eq (a b : Pg) : a.same b = (eqL Rc.same a.recs b.recs && (eqL Nm.same a.globs b.globs && (eqL Fn.same a.funs b.funs && eqL Th.same a.threads b.threads))) := rfl
theorem Nm.one (e : Nm) : ∀ v ∈ e.cells, v.oneCell' = true := by
  intro v hv
  simp only [Nm.cells, List.mem_cons, List.not_mem_nil, or_false] at hv
  rcases hv with rfl | rfl | rfl | rfl | rfl
  all_goals rfl
theorem Rc.ok.one {w : World} {F : Nat → Prop} {e : Rc} (h : e.ok w F) : ∀ v ∈ e.cells, v.oneCell' = true := by
  intro v hv
  simp only [Rc.cells, List.mem_cons, List.not_mem_nil, or_false] at hv
  rcases hv with rfl | rfl | rfl | rfl
  all_goals first | rfl | exact h.1.one
theorem Fn.ok.one {w : World} {F : Nat → Prop} {e : Fn} (h : e.ok w F) : ∀ v ∈ e.cells, v.oneCell' = true := by
  intro v hv
  simp only [Fn.cells, List.mem_cons, List.not_mem_nil, or_false] at hv
  rcases hv with rfl | rfl | rfl | rfl | rfl
  all_goals first | rfl | exact h.1.1.one | exact h.2.1.one
theorem Th.ok.one {w : World} {F : Nat → Prop} {e : Th} (h : e.ok w F) : ∀ v ∈ e.cells, v.oneCell' = true := by
  intro v hv
  simp only [Th.cells, List.mem_cons, List.not_mem_nil, or_false] at hv
  rcases hv with rfl | rfl | rfl
  all_goals first | rfl | exact h.1.one
theorem nmsOk.kept {w w' : World} {F : Nat → Prop} {v : Value} {l : List Nm} (h : nmsOk w F v l) (k : Below w.heap.size w w') : nmsOk w' F v l := h.keep (fun g _ hg => k.block g hg)
theorem Rc.ok.kept {w w' : World} {F : Nat → Prop} {e : Rc} (h : e.ok w F) (k : Below w.heap.size w w') : e.ok w' F := nmsOk.kept h k
theorem Fn.ok.kept {w w' : World} {F : Nat → Prop} {e : Fn} (h : e.ok w F) (k : Below w.heap.size w w') : e.ok w' F := ⟨nmsOk.kept h.1 k, h.2.kept k⟩
theorem Th.ok.kept {w w' : World} {F : Nat → Prop} {e : Th} (h : e.ok w F) (k : Below w.heap.size w w') : e.ok w' F := stsOk.kept h k

set_option maxRecDepth 100000 in
set_option maxHeartbeats 2000000 in
theorem sameNamed_any (a b : Nm) (w : World) : Calls Try.prog 29 #[a.val, b.val] w fun e w' => e = .returned (.bool (a.same b)) ∧ Below w.heap.size w w' := by
  have E := hid (Nm.same_eq a b)
  obtain ⟨anm, atk, atr, al, ac⟩ := a
  obtain ⟨bnm, btk, btr, bl, bc⟩ := b
  simp only [Nm.val, Nm.cells] at *
  generalize Nm.same _ _ = s at *
  go_enter Try.func29, Try.ntmps29
  go_wp2_with fail
  all_goals go_ret
  all_goals exact ⟨ret_bool (by rw [E.out]; simp_all), below_two _ _ _⟩

theorem named_any (l m : List Nm) (v u : Value) (w : World) (F G : Nat → Prop) (ha : nmsOk w F v l) (hb : nmsOk w G u m) : Calls Try.prog 28 #[v, u, .func (.func 29) #[] #[]] w fun e w' => e = .returned (.bool (eqL Nm.same l m)) ∧ Below w.heap.size w w' :=
  equal28 Nm.same l m v u w F G ha.1 hb.1 (fun x _ => x.one) (fun x _ => x.one) (fun x hx y hy W hW => sameNamed_any x y W)

set_option maxRecDepth 100000 in
set_option maxHeartbeats 2000000 in
theorem sameRecord_any (a b : Rc) (w : World) (F G : Nat → Prop) (ha : a.ok w F) (hb : b.ok w G) : Calls Try.prog 27 #[a.val, b.val] w fun e w' => e = .returned (.bool (a.same b)) ∧ Below w.heap.size w w' := by
  have E := hid (Rc.same_eq a b)
  have C := fun o1 o2 => named_any a.fields b.fields a.fv b.fv ((w.alloc o1).alloc o2) F G (nmsOk.kept ha (below_two _ _ _)) (nmsOk.kept hb (below_two _ _ _))
  clear ha hb
  obtain ⟨anm, afs, afv, al, ac⟩ := a
  obtain ⟨bnm, bfs, bfv, bl, bc⟩ := b
  simp only [Rc.val, Rc.cells] at *
  generalize eqL Nm.same afs bfs = r at *
  generalize Rc.same _ _ = s at *
  go_enter Try.func27, Try.ntmps27
  go_wp2_with (go_at_call 28; refine (C _ _).mono ?_; rintro e w' ⟨rfl, hb⟩)
  all_goals go_ret
  all_goals first
    | exact ⟨ret_bool (by rw [E.out]; simp [*]), Below.over (below_two _ _ _) hb⟩
    | exact ⟨ret_bool (by rw [E.out]; simp [*]), below_two _ _ _⟩

set_option maxRecDepth 100000 in
set_option maxHeartbeats 2000000 in
theorem sameFun_any (a b : Fn) (w : World) (F G : Nat → Prop) (ha : a.ok w F) (hb : b.ok w G) : Calls Try.prog 31 #[a.val, b.val] w fun e w' => e = .returned (.bool (a.same b)) ∧ Below w.heap.size w w' := by
  have E := hid (Fn.same_eq a b)
  have C := fun o1 o2 => named_any a.params b.params a.pv b.pv ((w.alloc o1).alloc o2) F G (nmsOk.kept ha.1 (below_two _ _ _)) (nmsOk.kept hb.1 (below_two _ _ _))
  have D := fun W (hW : Below w.heap.size w W) => stmts_any a.body b.body a.bv b.bv W F G (ha.2.kept hW) (hb.2.kept hW)
  clear ha hb
  have X := fun w' hb => box2 (w := w) (w' := w') (xs := a.cells) (ys := b.cells) (t := 58) (u := 58) hb
  obtain ⟨anm, aps, apv, ab, abv, al, ac⟩ := a
  obtain ⟨bnm, bps, bpv, bb, bbv, bl, bc⟩ := b
  simp only [Fn.val, Fn.cells] at *
  generalize eqL Nm.same aps bps = r at *
  generalize eqL St.same ab bb = r' at *
  generalize Fn.same _ _ = s at *
  go_enter Try.func31, Try.ntmps31
  go_wp2_with (first
    | (go_at_call 28; refine (C _ _).mono ?_; rintro e w' ⟨rfl, hb⟩; obtain ⟨x1, x2⟩ := X _ hb; have c1 := range_cell x1 2 rfl; have c2 := range_cell x2 2 rfl; clear x1 x2)
    | (go_at_call 12; refine (D _ (Below.over (below_two _ _ _) hb)).mono ?_; rintro e w'' ⟨rfl, hb2⟩))
  all_goals go_ret
  all_goals first
    | exact ⟨ret_bool (by rw [E.out]; simp [*]), Below.over (Below.over (below_two _ _ _) hb) hb2⟩
    | exact ⟨ret_bool (by rw [E.out]; simp [*]), Below.over (below_two _ _ _) hb⟩
    | exact ⟨ret_bool (by rw [E.out]; simp [*]), below_two _ _ _⟩

set_option maxRecDepth 100000 in
set_option maxHeartbeats 2000000 in
theorem sameThread_any (a b : Th) (w : World) (F G : Nat → Prop) (ha : a.ok w F) (hb : b.ok w G) : Calls Try.prog 33 #[a.val, b.val] w fun e w' => e = .returned (.bool (a.same b)) ∧ Below w.heap.size w w' := by
  have E : Hid (a.same b = eqL St.same a.body b.body) := hid rfl
  have D := fun W (hW : Below w.heap.size w W) => stmts_any a.body b.body a.bv b.bv W F G (stsOk.kept ha hW) (stsOk.kept hb hW)
  clear ha hb
  obtain ⟨ab, abv, al, ac⟩ := a
  obtain ⟨bb, bbv, bl, bc⟩ := b
  simp only [Th.val, Th.cells] at *
  generalize eqL St.same ab bb = r' at *
  generalize Th.same _ _ = s at *
  go_enter Try.func33, Try.ntmps33
  go_wp2_with (go_at_call 12; refine (D _ (below_two _ _ _)).mono ?_; rintro e w'' ⟨rfl, hb2⟩)
  go_ret
  exact ⟨ret_bool (by rw [E.out]), Below.over (below_two _ _ _) hb2⟩

set_option maxRecDepth 100000 in
set_option maxHeartbeats 2000000 in
theorem same_any (a b : Pg) (w : World) (F G : Nat → Prop) (ha : a.ok w F) (hb : b.ok w G) : Calls Try.prog 9 #[a.val, b.val] w fun e w' => e = .returned (.bool (a.same b)) ∧ Below w.heap.size w w' := by
  have E := hid (Pg.same_eq a b)
  have C := fun W (hW : Below w.heap.size w W) => equal26 Rc.same a.recs b.recs a.rv b.rv W F G (ha.1.1.kept hW) (hb.1.1.kept hW) (fun x hx => Rc.ok.one (ha.1.2 x hx)) (fun x hx => Rc.ok.one (hb.1.2 x hx))
    (fun x hx y hy V hV => sameRecord_any x y V F G (Rc.ok.kept (ha.1.2 x hx) (Below.over hW hV)) (Rc.ok.kept (hb.1.2 y hy) (Below.over hW hV)))
  have D := fun W (hW : Below w.heap.size w W) => named_any a.globs b.globs a.gv b.gv W F G (nmsOk.kept ha.2.1 hW) (nmsOk.kept hb.2.1 hW)
  have H := fun W (hW : Below w.heap.size w W) => equal30 Fn.same a.funs b.funs a.fv b.fv W F G (ha.2.2.1.1.kept hW) (hb.2.2.1.1.kept hW) (fun x hx => Fn.ok.one (ha.2.2.1.2 x hx)) (fun x hx => Fn.ok.one (hb.2.2.1.2 x hx))
    (fun x hx y hy V hV => sameFun_any x y V F G (Fn.ok.kept (ha.2.2.1.2 x hx) (Below.over hW hV)) (Fn.ok.kept (hb.2.2.1.2 y hy) (Below.over hW hV)))
  have I := fun W (hW : Below w.heap.size w W) => equal32 Th.same a.threads b.threads a.tv b.tv W F G (ha.2.2.2.1.kept hW) (hb.2.2.2.1.kept hW) (fun x hx => Th.ok.one (ha.2.2.2.2 x hx)) (fun x hx => Th.ok.one (hb.2.2.2.2 x hx))
    (fun x hx y hy V hV => sameThread_any x y V F G (Th.ok.kept (ha.2.2.2.2 x hx) (Below.over hW hV)) (Th.ok.kept (hb.2.2.2.2 y hy) (Below.over hW hV)))
  clear ha hb
  have X := fun w' hb => box2 (w := w) (w' := w') (xs := a.cells) (ys := b.cells) (t := 29) (u := 29) hb
  obtain ⟨a1, av1, a2, av2, a3, av3, a4, av4⟩ := a
  obtain ⟨b1, bv1, b2, bv2, b3, bv3, b4, bv4⟩ := b
  simp only [Pg.val, Pg.cells] at *
  generalize eqL Rc.same a1 b1 = r1 at *
  generalize eqL Nm.same a2 b2 = r2 at *
  generalize eqL Fn.same a3 b3 = r3 at *
  generalize eqL Th.same a4 b4 = r4 at *
  generalize Pg.same _ _ = s at *
  go_enter Try.func9, Try.ntmps9
  go_wp2_with (first
    | (go_at_call 26; refine (C _ (below_two _ _ _)).mono ?_; rintro e w1 ⟨rfl, hb1⟩; obtain ⟨x1, x2⟩ := X _ hb1; have c1 := range_cell x1 1 rfl; have c2 := range_cell x2 1 rfl; clear x1 x2)
    | (go_at_call 28; refine (D _ (Below.over (below_two _ _ _) hb1)).mono ?_; rintro e w2 ⟨rfl, hb⟩; have hb2 := Below.over hb1 hb; clear hb; obtain ⟨x1, x2⟩ := X _ hb2; have c3 := range_cell x1 2 rfl; have c4 := range_cell x2 2 rfl; clear x1 x2)
    | (go_at_call 30; refine (H _ (Below.over (below_two _ _ _) hb2)).mono ?_; rintro e w3 ⟨rfl, hb⟩; have hb3 := Below.over hb2 hb; clear hb; obtain ⟨x1, x2⟩ := X _ hb3; have c5 := range_cell x1 3 rfl; have c6 := range_cell x2 3 rfl; clear x1 x2)
    | (go_at_call 32; refine (I _ (Below.over (below_two _ _ _) hb3)).mono ?_; rintro e w4 ⟨rfl, hb⟩; have hb4 := Below.over hb3 hb; clear hb))
  all_goals go_ret
  all_goals first
    | exact ⟨ret_bool (by rw [E.out]; simp [*]), Below.over (below_two _ _ _) hb4⟩
    | exact ⟨ret_bool (by rw [E.out]; simp [*]), Below.over (below_two _ _ _) hb3⟩
    | exact ⟨ret_bool (by rw [E.out]; simp [*]), Below.over (below_two _ _ _) hb2⟩
    | exact ⟨ret_bool (by rw [E.out]; simp [*]), Below.over (below_two _ _ _) hb1⟩
end Go.Proofs.Ytfdfeiempeciiaa
