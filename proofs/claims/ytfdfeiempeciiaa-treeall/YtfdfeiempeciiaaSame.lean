/- Contracts of SameExpr, Exprs and EqualFunc of expressions. -/
import Derived.Test.YtfdfeiempeciiaaTree
namespace Go.Proofs.Ytfdfeiempeciiaa
open Go.ChangeShapes Go.WideShapes Go.ChangeAt Go.RowKit
set_option linter.unusedVariables false


set_option maxRecDepth 100000 in
set_option maxHeartbeats 2000000 in
theorem sameExpr_step (a b : Ex) (w : World) (C : ∀ o1 o2, Calls Try.prog 21 #[a.kv, b.kv] ((w.alloc o1).alloc o2) fun e w' => e = .returned (.bool (eqL Ex.same a.kids b.kids)) ∧ Below ((w.alloc o1).alloc o2).heap.size ((w.alloc o1).alloc o2) w') :
    Calls Try.prog 14 #[a.val, b.val] w fun e w' => e = .returned (.bool (a.same b)) ∧ Below w.heap.size w w' := by
  have E := hid (Ex.same_eq a b)
  obtain ⟨aop, abin, an, atk, atr, anm, akids, akv, al, ac⟩ := a
  obtain ⟨bop, bbin, bn, btk, btr, bnm, bkids, bkv, bl, bc⟩ := b
  simp only [Ex.val, Ex.cells] at *
  generalize eqL Ex.same akids bkids = r at *
  generalize Ex.same _ _ = s at *
  go_enter Try.func14, Try.ntmps14
  go_wp2_with (go_at_call 21; refine (C _ _).mono ?_; rintro e w' ⟨rfl, hb⟩)
  all_goals go_ret
  all_goals first
    | exact ⟨ret_bool (by rw [E.out]; simp_all), below_two _ _ _⟩
    | exact ⟨ret_bool (by rw [E.out]; simp_all), Below.over (below_two _ _ _) hb⟩

set_option maxRecDepth 100000 in
set_option maxHeartbeats 2000000 in
theorem equal43 (p : Ex → Ex → Bool) (l m : List Ex) (v u : Value) (w : World) (F G : Nat → Prop) (hl : RowAt w F 9 v l.length (l.flatMap Ex.cells)) (hm : RowAt w G 9 u m.length (m.flatMap Ex.cells))
    (h1 : ∀ x ∈ l, ∀ c ∈ x.cells, c.oneCell' = true) (h2 : ∀ x ∈ m, ∀ c ∈ x.cells, c.oneCell' = true)
    (C : ∀ x ∈ l, ∀ y ∈ m, ∀ W, Below w.heap.size w W → Calls Try.prog 14 #[x.val, y.val] W fun e w' => e = .returned (.bool (p x y)) ∧ Below W.heap.size W w') :
    Calls Try.prog 43 #[v, u, .func (.func 14) #[] #[]] w fun e w' => e = .returned (.bool (eqL p l m)) ∧ Below w.heap.size w w' := by
  have hn := hl.1.2
  have hn2 := hm.1.2
  obtain ⟨pv, cv, rfl⟩ := hl.form
  by_cases hlm : l.length = m.length
  · obtain ⟨pu, cu, rfl⟩ : ∃ p c, u = .slice p l.length c := by rw [hlm]; exact hm.form
    have EA := hid (eqL_all p l m hlm)
    have EN := hid (eqL_not p l m)
    generalize eqL p l m = R at EA EN ⊢
    have HL := hid hlm
    clear hlm
    go_enter Try.func43, Try.ntmps43
    go_wp2_with fail
    go_loopw [17] (fun i wr => ∃ k : Nat, k ≤ l.length ∧ i = .int .i64 k ∧ Hid (Below w.heap.size w wr ∧ ∀ (j : Nat) (x : Ex) (y : Ex), j < k → l[j]? = some x → m[j]? = some y → p x y = true)) (fun i _ => l.length - (intOf i).toNat)
    case atStart => exact ⟨0, Nat.zero_le _, rfl, hid ⟨Below.refl _ _, by intro j x y hj; omega⟩⟩
    case round =>
      obtain ⟨k, hk, rfl, hat⟩ := hrel
      by_cases hlt : k < l.length
      · obtain ⟨x, hx⟩ : ∃ x, l[k]? = some x := ⟨_, List.getElem?_eq_getElem hlt⟩
        obtain ⟨y, hy⟩ : ∃ y, m[k]? = some y := ⟨_, List.getElem?_eq_getElem (by have := HL.out; omega)⟩
        obtain ⟨g1, c1, e1, f1, s1, r1⟩ := (hl.kept hat.out.1).elem Ex.len hx
        obtain ⟨g2, c2, e2, f2, s2, r2⟩ := (hm.kept hat.out.1).elem Ex.len hy
        replace e1 := (Value.slice.inj e1).1
        replace e2 := (Value.slice.inj e2).1
        subst e1
        subst e2
        replace hx := hid hx
        replace hy := hid hy
        replace r1 := hid r1
        replace r2 := hid r2
        have o1 := hid (h1 x (List.mem_of_getElem? hx.out))
        have o2 := hid (h2 y (List.mem_of_getElem? hy.out))
        have D := fun W hW => C x (List.mem_of_getElem? hx.out) y (List.mem_of_getElem? hy.out) W hW
        have r2' : ∀ o, Hid ((wr.alloc o).rangeAt g2 (k * 9) y.cells) := fun o => rangeAt_kept r2.out ((Below.refl _ _).alloc (Nat.le_refl _) _)
        have r3 : ∀ o, Hid (((wr.alloc (.cells x.cells.toArray 46)).alloc o).rangeAt wr.heap.size 0 x.cells) := fun o => rangeAt_kept (rangeAt_new wr _ _) ((Below.refl _ _).alloc (Nat.le_refl _) _)
        have r4 : ∀ o, Hid (((wr.alloc o).alloc (.cells y.cells.toArray 46)).rangeAt (wr.heap.size + 1) 0 y.cells) := fun o => by have := rangeAt_new (wr.alloc o) y.cells 46; simp only [World.size_alloc] at this; exact this
        have hbl := hid hat.out.1
        have fin := hid (fun (j : Nat) (x' y' : Ex) (hj : j < k + 1) (hx' : l[j]? = some x') (hy' : m[j]? = some y') (hp : p x y = true) => (by
          by_cases e : j = k
          · subst e
            have e1 := hx.out
            have e2 := hy.out
            rw [hx'] at e1
            rw [hy'] at e2
            cases e1
            cases e2
            exact hp
          · exact hat.out.2 j x' y' (by omega) hx' hy' : p x' y' = true))
        clear f1 f2 h1 h2 C hl hm
        cases hp : p x y
        all_goals
          rw [hp] at D
          replace hp := hid hp
          go_wp2_with (first
            | refine wl_load 46 _ rfl rfl g1 (k * 9) rfl x.cells r1.out agg46 ?_
            | refine wl_store_new 46 _ _ rfl rfl _ 46 _ rfl _ rfl rfl x.cells rfl agg46 rfl o1.out ?_
            | refine wl_load 46 _ rfl rfl g2 (k * 9) rfl y.cells (r2' _).out agg46 ?_
            | refine wl_store_new 46 _ _ rfl rfl _ 46 _ rfl _ (by simp) rfl y.cells rfl agg46 rfl o2.out ?_
            | refine wl_load 46 _ rfl rfl wr.heap.size 0 rfl x.cells (r3 _).out agg46 ?_
            | refine wl_load 46 _ rfl rfl (wr.heap.size + 1) 0 rfl y.cells (r4 _).out agg46 ?_
            | (go_at_call 14; refine (D _ (hbl.out.trans ((below_two wr _ _).mono hbl.out.size))).mono ?_; rintro e w' ⟨rfl, hb⟩))
        · go_ret
          exact ⟨ret_bool (EN.out k x y hx.out hy.out hp.out).symm, hbl.out.trans ((Below.over (below_two wr _ _) hb).mono hbl.out.size)⟩
        · go_roundw
          case rel => exact ⟨k + 1, by omega, by go_num, hid ⟨hbl.out.trans ((Below.over (below_two wr _ _) hb).mono hbl.out.size), fun j x' y' a b c => fin.out j x' y' a b c hp.out⟩⟩
          case measure => simp [intOf]; omega
      · go_wp2_with fail
        go_ret
        have hkl : l.length = k := by omega
        exact ⟨ret_bool (EA.out fun i x y hx hy => hat.out.2 i x y (by have := (List.getElem?_eq_some_iff.1 hx).1; omega) hx hy).symm, hat.out.1⟩
  · obtain ⟨pu, cu, rfl⟩ := hm.form
    have := eqL_len p l m hlm
    go_enter Try.func43, Try.ntmps43
    go_wp2_with fail
    go_ret
    exact ⟨ret_bool this.symm, Below.refl _ _⟩

set_option maxRecDepth 100000 in
theorem exprs_step (p : Ex → Ex → Bool) (l m : List Ex) (v u : Value) (w : World) (F G : Nat → Prop) (hl : RowAt w F 9 v l.length (l.flatMap Ex.cells)) (hm : RowAt w G 9 u m.length (m.flatMap Ex.cells))
    (h1 : ∀ x ∈ l, ∀ c ∈ x.cells, c.oneCell' = true) (h2 : ∀ x ∈ m, ∀ c ∈ x.cells, c.oneCell' = true)
    (C : ∀ x ∈ l, ∀ y ∈ m, ∀ W, Below w.heap.size w W → Calls Try.prog 14 #[x.val, y.val] W fun e w' => e = .returned (.bool (p x y)) ∧ Below W.heap.size W w') :
    Calls Try.prog 21 #[v, u] w fun e w' => e = .returned (.bool (eqL p l m)) ∧ Below w.heap.size w w' := by
  have E := equal43 p l m v u w F G hl hm h1 h2 C
  obtain ⟨pv, cv, rfl⟩ := hl.form
  obtain ⟨pu, cu, rfl⟩ := hm.form
  go_enter Try.func21, Try.ntmps21
  go_wp2_with (go_at_call 43; refine E.mono ?_; rintro e w' ⟨rfl, hb⟩)
  go_ret
  exact ⟨rfl, hb⟩

theorem sameExpr_any (a b : Ex) (w : World) (F G : Nat → Prop) (ha : a.ok w F) (hb : b.ok w G) : Calls Try.prog 14 #[a.val, b.val] w fun e w' => e = .returned (.bool (a.same b)) ∧ Below w.heap.size w w' := by
  induction a using Ex.ind generalizing b w with
  | h a ih =>
    refine sameExpr_step a b w fun o1 o2 => ?_
    have k := below_two w o1 o2
    exact exprs_step Ex.same a.kids b.kids a.kv b.kv _ F G (ha.row.kept k) (hb.row.kept k) (fun x hx => (ha.kid x hx).one) (fun x hx => (hb.kid x hx).one)
      (fun x hx y hy W hW => ih x hx y W ((ha.kid x hx).kept (Below.over k hW)) ((hb.kid y hy).kept (Below.over k hW)))

theorem exprs_any (l m : List Ex) (v u : Value) (w : World) (F G : Nat → Prop) (ha : exsOk w F v l) (hb : exsOk w G u m) : Calls Try.prog 21 #[v, u] w fun e w' => e = .returned (.bool (eqL Ex.same l m)) ∧ Below w.heap.size w w' :=
  exprs_step Ex.same l m v u w F G ha.1 hb.1 (fun x hx => (ha.2 x hx).one) (fun x hx => (hb.2 x hx).one) (fun x hx y hy W hW => sameExpr_any x y W F G ((ha.2 x hx).kept hW) ((hb.2 y hy).kept hW))
end Go.Proofs.Ytfdfeiempeciiaa
