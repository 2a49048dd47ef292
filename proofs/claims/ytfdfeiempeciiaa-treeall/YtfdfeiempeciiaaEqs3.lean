/- EqualFunc of statements. -/
import Derived.Test.YtfdfeiempeciiaaTree
namespace Go.Proofs.Ytfdfeiempeciiaa
open Go.ChangeShapes Go.WideShapes Go.ChangeAt Go.RowKit
set_option linter.unusedVariables false

set_option maxRecDepth 100000 in
set_option maxHeartbeats 2000000 in
theorem equal36 (p : St → St → Bool) (l m : List St) (v u : Value) (w : World) (F G : Nat → Prop) (hl : RowAt w F 58 v l.length (l.flatMap St.cells)) (hm : RowAt w G 58 u m.length (m.flatMap St.cells))
    (h1 : ∀ x ∈ l, ∀ c ∈ x.cells, c.oneCell' = true) (h2 : ∀ x ∈ m, ∀ c ∈ x.cells, c.oneCell' = true)
    (C : ∀ x ∈ l, ∀ y ∈ m, ∀ W, Below w.heap.size w W → Calls Try.prog 16 #[x.val, y.val] W fun e w' => e = .returned (.bool (p x y)) ∧ Below W.heap.size W w') :
    Calls Try.prog 36 #[v, u, .func (.func 16) #[] #[]] w fun e w' => e = .returned (.bool (eqL p l m)) ∧ Below w.heap.size w w' := by
  have hn := hl.1.2
  have hn2 := hm.1.2
  obtain ⟨pv, cv, rfl⟩ := hl.form
  by_cases hlm : l.length = m.length
  · obtain ⟨pu, cu, rfl⟩ : ∃ p c, u = .slice p l.length c := by rw [hlm]; exact hm.form
    have EA := hid (eqL_all p l m hlm)
    have EN := hid (eqL_not p l m)
    generalize eqL p l m = R at EA EN ⊢
    have HL := hid hlm
    clear hlm
    go_enter Try.func36, Try.ntmps36
    go_wp2_with fail
    go_loopw [17] (fun i wr => ∃ k : Nat, k ≤ l.length ∧ i = .int .i64 k ∧ Hid (Below w.heap.size w wr ∧ ∀ (j : Nat) (x : St) (y : St), j < k → l[j]? = some x → m[j]? = some y → p x y = true)) (fun i _ => l.length - (intOf i).toNat)
    case atStart => exact ⟨0, Nat.zero_le _, rfl, hid ⟨Below.refl _ _, by intro j x y hj; omega⟩⟩
    case round =>
      obtain ⟨k, hk, rfl, hat⟩ := hrel
      by_cases hlt : k < l.length
      · obtain ⟨x, hx⟩ : ∃ x, l[k]? = some x := ⟨_, List.getElem?_eq_getElem hlt⟩
        obtain ⟨y, hy⟩ : ∃ y, m[k]? = some y := ⟨_, List.getElem?_eq_getElem (by have := HL.out; omega)⟩
        obtain ⟨g1, c1, e1, f1, s1, r1⟩ := (hl.kept hat.out.1).elem St.len hx
        obtain ⟨g2, c2, e2, f2, s2, r2⟩ := (hm.kept hat.out.1).elem St.len hy
        replace e1 := (Value.slice.inj e1).1
        replace e2 := (Value.slice.inj e2).1
        subst e1
        subst e2
        replace hx := hid hx
        replace hy := hid hy
        replace r1 := hid r1
        replace r2 := hid r2
        have o1 := hid (h1 x (List.mem_of_getElem? hx.out))
        have o2 := hid (h2 y (List.mem_of_getElem? hy.out))
        have D := fun W hW => C x (List.mem_of_getElem? hx.out) y (List.mem_of_getElem? hy.out) W hW
        have r2' : ∀ o, Hid ((wr.alloc o).rangeAt g2 (k * 58) y.cells) := fun o => rangeAt_kept r2.out ((Below.refl _ _).alloc (Nat.le_refl _) _)
        have r3 : ∀ o, Hid (((wr.alloc (.cells x.cells.toArray 52)).alloc o).rangeAt wr.heap.size 0 x.cells) := fun o => rangeAt_kept (rangeAt_new wr _ _) ((Below.refl _ _).alloc (Nat.le_refl _) _)
        have r4 : ∀ o, Hid (((wr.alloc o).alloc (.cells y.cells.toArray 52)).rangeAt (wr.heap.size + 1) 0 y.cells) := fun o => by have := rangeAt_new (wr.alloc o) y.cells 52; simp only [World.size_alloc] at this; exact this
        have hbl := hid hat.out.1
        have fin := hid (fun (j : Nat) (x' y' : St) (hj : j < k + 1) (hx' : l[j]? = some x') (hy' : m[j]? = some y') (hp : p x y = true) => (by
          by_cases e : j = k
          · subst e
            have e1 := hx.out
            have e2 := hy.out
            rw [hx'] at e1
            rw [hy'] at e2
            cases e1
            cases e2
            exact hp
          · exact hat.out.2 j x' y' (by omega) hx' hy' : p x' y' = true))
        clear f1 f2 h1 h2 C hl hm
        cases hp : p x y
        all_goals
          rw [hp] at D
          replace hp := hid hp
          go_wp2_with (first
            | refine wl_load 52 _ rfl rfl g1 (k * 58) rfl x.cells r1.out agg52 ?_
            | refine wl_store_new 52 _ _ rfl rfl _ 52 _ rfl _ rfl rfl x.cells rfl agg52 rfl o1.out ?_
            | refine wl_load 52 _ rfl rfl g2 (k * 58) rfl y.cells (r2' _).out agg52 ?_
            | refine wl_store_new 52 _ _ rfl rfl _ 52 _ rfl _ (by simp) rfl y.cells rfl agg52 rfl o2.out ?_
            | refine wl_load 52 _ rfl rfl wr.heap.size 0 rfl x.cells (r3 _).out agg52 ?_
            | refine wl_load 52 _ rfl rfl (wr.heap.size + 1) 0 rfl y.cells (r4 _).out agg52 ?_
            | (go_at_call 16; refine (D _ (hbl.out.trans ((below_two wr _ _).mono hbl.out.size))).mono ?_; rintro e w' ⟨rfl, hb⟩))
        · go_ret
          exact ⟨ret_bool (EN.out k x y hx.out hy.out hp.out).symm, hbl.out.trans ((Below.over (below_two wr _ _) hb).mono hbl.out.size)⟩
        · go_roundw
          case rel => exact ⟨k + 1, by omega, by go_num, hid ⟨hbl.out.trans ((Below.over (below_two wr _ _) hb).mono hbl.out.size), fun j x' y' a b c => fin.out j x' y' a b c hp.out⟩⟩
          case measure => simp [intOf]; omega
      · go_wp2_with fail
        go_ret
        have hkl : l.length = k := by omega
        exact ⟨ret_bool (EA.out fun i x y hx hy => hat.out.2 i x y (by have := (List.getElem?_eq_some_iff.1 hx).1; omega) hx hy).symm, hat.out.1⟩
  · obtain ⟨pu, cu, rfl⟩ := hm.form
    have := eqL_len p l m hlm
    go_enter Try.func36, Try.ntmps36
    go_wp2_with fail
    go_ret
    exact ⟨ret_bool this.symm, Below.refl _ _⟩
end Go.Proofs.Ytfdfeiempeciiaa
