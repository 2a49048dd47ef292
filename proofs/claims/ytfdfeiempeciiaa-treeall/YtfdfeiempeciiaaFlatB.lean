/- Rows that are bare the same have all statements bare the same. -/
import Derived.Test.YtfdfeiempeciiaaFlat
import Derived.Test.YtfdfeiempeciiaaMakeM
namespace Go.Proofs.Ytfdfeiempeciiaa
open Go.ChangeShapes Go.WideShapes Go.ChangeAt Go.RowKit
set_option linter.unusedVariables false

theorem map_idem {α : Type} (f : α → α) (l : List α) (h : ∀ x ∈ l, f (f x) = f x) : (l.map f).map f = l.map f := by
  rw [List.map_map]
  exact List.map_congr_left h
theorem Ex.bare_bare (e : Ex) : e.bare.bare = e.bare := by
  induction e using Ex.ind with
  | h e ih =>
    rw [Ex.bare_eq e, Ex.bare_eq]
    simp only [map_idem Ex.bare e.kids ih]
theorem Pl.bare_bare (p : Pl) : p.bare.bare = p.bare := by simp only [Pl.bare, Ex.bare_bare]
theorem Rt.bare_bare (r : Rt) : r.bare.bare = r.bare := by simp only [Rt.bare, Ex.bare_bare, Pl.bare_bare]
theorem St.bare_bare (s : St) : s.bare.bare = s.bare := by
  induction s using St.ind with
  | h s ih1 ih2 =>
    rw [St.bare_eq s, St.bare_eq]
    simp only [Rt.bare_bare, Pl.bare_bare, Ex.bare_bare, map_idem Ex.bare s.args (fun x _ => Ex.bare_bare x), map_idem St.bare s.body ih1, map_idem St.bare s.els ih2]
/-- How deep, and the statement, bare. -/
def pairB (x : Int × St) : Int × St := (x.1, x.2.bare)
theorem flatL_rows (d : Int) (l : List St) (h : ∀ s ∈ l, ∀ d, (s.flat d).map pairB = (s.bare.flat d).map pairB) : (flatL d l).map pairB = (flatL d (l.map St.bare)).map pairB := by
  induction l with
  | nil => rfl
  | cons a l ih =>
    have h1 := h a (by simp) d
    have h2 := ih (fun s hs => h s (by simp [hs]))
    simp only [flatL, List.flatMap_cons, List.map_cons, List.map_append] at h1 h2 ⊢
    rw [h1, h2]
theorem flat_pairB (s : St) : ∀ d, (s.flat d).map pairB = (s.bare.flat d).map pairB := by
  induction s using St.ind with
  | h s ih1 ih2 =>
    intro d
    have e1 : s.bare.body = s.body.map St.bare := by rw [St.bare_eq]
    have e2 : s.bare.els = s.els.map St.bare := by rw [St.bare_eq]
    rw [St.flat_eq, St.flat_eq, e1, e2]
    simp only [List.map_cons, List.map_append]
    rw [flatL_rows _ s.body (fun k hk => ih1 k hk), flatL_rows _ s.els (fun k hk => ih2 k hk)]
    simp only [pairB, St.bare_bare]
theorem flatL_bare (d : Int) (l l' : List St) (h : l'.map St.bare = l.map St.bare) : (flatL d l').map pairB = (flatL d l).map pairB := by
  rw [flatL_rows d l (fun s _ => flat_pairB s), flatL_rows d l' (fun s _ => flat_pairB s), h]
theorem flatL_bare_len (d : Int) (l l' : List St) (h : l'.map St.bare = l.map St.bare) : (flatL d l').length = (flatL d l).length := by
  have := congrArg List.length (flatL_bare d l l' h)
  simpa using this
theorem flatL_bare_get (d : Int) (l l' : List St) (h : l'.map St.bare = l.map St.bare) (k : Nat) (x y : Int × St) (hx : (flatL d l')[k]? = some x) (hy : (flatL d l)[k]? = some y) : x.1 = y.1 ∧ x.2.bare = y.2.bare := by
  have := congrArg (fun l => l[k]?) (flatL_bare d l l' h)
  simp [hx, hy, pairB] at this
  exact this
end Go.Proofs.Ytfdfeiempeciiaa
