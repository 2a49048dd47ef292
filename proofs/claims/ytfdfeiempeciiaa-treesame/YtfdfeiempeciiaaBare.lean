/- What is the same without where its rows lie is the same. -/
import Derived.Test.YtfdfeiempeciiaaMakeM
namespace Go.Proofs.Ytfdfeiempeciiaa
open Go.ChangeShapes Go.WideShapes Go.ChangeAt Go.RowKit
set_option linter.unusedVariables false

theorem eqL_map {α : Type} (f : α → α) (p : α → α → Bool) (l m : List α) (h : l.map f = m.map f) (hp : ∀ x ∈ l, ∀ y, f x = f y → p x y = true) : eqL p l m = true := by
  refine eqL_all p l m (by have := congrArg List.length h; simpa using this) (fun i x y hx hy => hp x (List.mem_of_getElem? hx) y ?_)
  have := congrArg (fun l => l[i]?) h
  simpa [hx, hy] using this

theorem Ex.same_bare (a : Ex) : ∀ b : Ex, a.bare = b.bare → a.same b = true := by
  induction a using Ex.ind with
  | h a ih =>
    intro b h
    rw [Ex.bare_eq, Ex.bare_eq] at h
    simp only [Ex.mk.injEq] at h
    obtain ⟨h1, h2, h3, h4, h5, h6, h7, -, -, -⟩ := h
    rw [Ex.same_eq, h1, h2, h3, h4, h5, h6, eqL_map Ex.bare Ex.same a.kids b.kids h7 (fun x hx y hy => ih x hx y hy)]
    simp
theorem Pl.same_bare (a b : Pl) (h : a.bare = b.bare) : a.same b = true := by
  simp only [Pl.bare, Pl.mk.injEq] at h
  obtain ⟨h1, h2, h3, h4, -, -⟩ := h
  simp [Pl.same, h1, h2, h3, Ex.same_bare _ _ h4]
theorem Rt.same_bare (a b : Rt) (h : a.bare = b.bare) : a.same b = true := by
  simp only [Rt.bare, Rt.mk.injEq] at h
  obtain ⟨h1, h2, h3, h4, -, -⟩ := h
  simp [Rt.same, h1, h4, Ex.same_bare _ _ h2, Pl.same_bare _ _ h3]
theorem St.same_bare (a : St) : ∀ b : St, a.bare = b.bare → a.same b = true := by
  induction a using St.ind with
  | h a ih1 ih2 =>
    intro b h
    rw [St.bare_eq, St.bare_eq] at h
    simp only [St.mk.injEq] at h
    obtain ⟨h1, h2, h3, h4, h5, h6, h7, -, h8, -, h9, -, -, -⟩ := h
    rw [St.same_eq, h1, h2, h6, Rt.same_bare _ _ h3, Pl.same_bare _ _ h4, Ex.same_bare _ _ h5, eqL_map Ex.bare Ex.same _ _ h7 (fun x _ y hy => Ex.same_bare x y hy), eqL_map St.bare St.same _ _ h8 (fun x hx y hy => ih1 x hx y hy), eqL_map St.bare St.same _ _ h9 (fun x hx y hy => ih2 x hx y hy)]
    simp
theorem Nm.same_self (l : List Nm) : eqL Nm.same l l = true := eqL_all Nm.same l l rfl (fun i x y hx hy => by
  rw [hx] at hy
  cases hy
  simp [Nm.same])
theorem rows_bare (a b : List St) (h : a.map St.bare = b.map St.bare) : eqL St.same a b = true := eqL_map St.bare St.same a b h (fun x _ y hy => St.same_bare x y hy)
theorem Pg.same_bare (a b : Pg) (h : a.bare = b.bare) : a.same b = true := by
  simp only [Pg.bare, Pg.mk.injEq] at h
  obtain ⟨h1, -, h2, -, h3, -, h4, -⟩ := h
  have e1 : eqL Rc.same a.recs b.recs = true := eqL_map Rc.bare Rc.same _ _ h1 (fun x _ y hy => by
    simp only [Rc.bare, Rc.mk.injEq] at hy
    obtain ⟨g1, g2, -, -, -⟩ := hy
    simp [Rc.same, g1, g2, Nm.same_self])
  have e3 : eqL Fn.same a.funs b.funs = true := eqL_map Fn.bare Fn.same _ _ h3 (fun x _ y hy => by
    simp only [Fn.bare, Fn.mk.injEq] at hy
    obtain ⟨g1, g2, -, g3, -, -, -⟩ := hy
    simp [Fn.same, g1, g2, Nm.same_self, rows_bare _ _ g3])
  have e4 : eqL Th.same a.threads b.threads = true := eqL_map Th.bare Th.same _ _ h4 (fun x _ y hy => by
    simp only [Th.bare, Th.mk.injEq] at hy
    obtain ⟨g1, -, -, -⟩ := hy
    simp [Th.same, rows_bare _ _ g1])
  simp [Pg.same, e1, h2, Nm.same_self, e3, e4]
end Go.Proofs.Ytfdfeiempeciiaa
