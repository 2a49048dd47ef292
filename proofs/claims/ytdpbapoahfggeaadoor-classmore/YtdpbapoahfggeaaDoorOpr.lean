/- An argument that is rows of sets reads as plain data. -/
import Derived.Test.YtdpbapoahfggeaaDoorJb
namespace Go.Proofs.YtdpbapoahfggeaaDoor
open Go.ChangeShapes Go.WideShapes Go.ChangeAt Go.RowKit Go.Deep
set_option linter.unusedVariables false
set_option linter.unusedSimpArgs false

structure Rw where
  v : Value
  l : List Nat
def Rw.cells (x : Rw) : List Value := [x.v]
def num1 (n : Nat) : List Value := [nV n]
def Nums64 (w : World) (v : Value) (l : List Nat) : Prop := RowOf num1 1 (fun _ n => n < 18446744073709551616) w v l
def Rw.okW (w : World) (x : Rw) : Prop := Nums64 w x.v x.l
theorem cells22' : Tryd.prog.cellsOf 22 = 1 := by kernel_rfl
theorem cells27' : Tryd.prog.cellsOf 27 = 1 := by kernel_rfl
theorem cells23' : Tryd.prog.cellsOf 23 = 1 := by kernel_rfl
section
variable {H : Type} {enc : TypeId × Value → H} {W : World} {n : Nat} {cs : List Value} {x : DataW H × List MemPlace}
theorem opens_num (h : DataW.trod enc Tryd.prog W 0 (fun _ => true) true n 23 cs = some x) : ∃ y : Nat, cs = num1 y ∧ y < 18446744073709551616 := by
  obtain ⟨k, e, _, hw⟩ := DataW.trod_int Tryd.underlying23 h
  have b := bounds_u64 hw
  obtain ⟨m, rfl⟩ := Int.eq_ofNat_of_zero_le b.1
  exact ⟨m, e, by omega⟩
theorem opens_nums (h : DataW.trod enc Tryd.prog W 0 (fun _ => true) true n 27 cs = some x) : ∃ y : Rw, cs = y.cells ∧ y.okW W := by
  obtain ⟨v, l, e, h⟩ := opens_rows (cells := num1) (s := 1) (ok := fun _ n => n < 18446744073709551616) 0 (fun _ => rfl) Tryd.underlying27 cells23' (by decide) opens_num h
  exact ⟨⟨v, l⟩, e, h⟩
theorem opens_numss (h : DataW.trod enc Tryd.prog W 0 (fun _ => true) true n 22 cs = some x) : ∃ (v : Value) (l : List Rw), cs = [v] ∧ RowOf Rw.cells 1 Rw.okW W v l :=
  opens_rows (cells := Rw.cells) (s := 1) (ok := Rw.okW) ⟨.bool false, []⟩ (fun _ => rfl) Tryd.underlying22 cells27' (by decide) opens_nums h
end
theorem flat1 {α : Type} (f : α → Value) : ∀ (l : List α), l.flatMap (fun x => [f x]) = l.map f
  | [] => rfl
  | a :: l => by rw [List.flatMap_cons, flat1 f l]; rfl
theorem vals_of {α : Type} {f : α → Value} {ok : World → α → Prop} {w : World} {v : Value} {l : List α} (h : RowOf (fun x => [f x]) 1 ok w v l) : ValsR w v (l.map f) := by
  obtain ⟨a, c, e, h1, h2, _, _, h3⟩ := h
  refine ⟨a, c, by rw [e, List.length_map], by have : maxLen = 9223372036854775807 := rfl; rw [List.length_map]; omega, fun i u hu => ?_⟩
  rw [List.getElem?_map] at hu
  cases hx : l[i]? with
  | none => rw [hx] at hu; cases hu
  | some x =>
    rw [hx] at hu
    simp at hu
    subst hu
    obtain ⟨b, off, e1, e2, e3, _⟩ := h3 i x hx
    refine ⟨b, off, e1, e2, ?_⟩
    have := e3 0 _ rfl
    rw [Nat.mul_one, Nat.add_zero] at this
    exact this
theorem nums_ok {w : World} {v : Value} {l : List Nat} (h : Nums64 w v l) : NumR w v l ∧ ∀ x ∈ l, x < 18446744073709551616 := by
  refine ⟨vals_of (f := nV) h, fun x hx => ?_⟩
  obtain ⟨i, hi⟩ := List.mem_iff_getElem?.1 hx
  obtain ⟨a, c, e, h1, h2, _, _, h3⟩ := h
  obtain ⟨b, off, _, _, _, q⟩ := h3 i x hi
  exact q
set_option maxRecDepth 100000 in
theorem open22 {H : Type} {enc : TypeId × Value → H} {W : World} {base : Nat} {v : Value} {d : DataW H} {p : List MemPlace} (hv : Value.okWide Tryd.prog W .any base 22 v) (h : DataW.Trod enc Tryd.prog W 0 (fun _ => true) true 22 v d p) :
    ∃ L : List (List Nat), RowsR W v L ∧ Sm64 L := by
  obtain ⟨a0, len, cap, rfl⟩ := okWide_slice Tryd.underlying22 hv
  obtain ⟨fuel, hf⟩ := h
  obtain ⟨v, l, e, hr⟩ := opens_numss hf
  simp [Value.cells] at e
  subst e
  have hok : ∀ x ∈ l, x.okW W := fun x hx => by
    obtain ⟨i, hi⟩ := List.mem_iff_getElem?.1 hx
    obtain ⟨a, c, e, h1, h2, _, _, h3⟩ := hr
    obtain ⟨b, off, _, _, _, q⟩ := h3 i x hi
    exact q
  refine ⟨l.map Rw.l, ⟨l.map Rw.v, vals_of (f := Rw.v) hr, by simp, fun i u k hu hk => ?_⟩, fun k hk x hx => ?_⟩
  · rw [List.getElem?_map] at hu hk
    cases hx : l[i]? with
    | none => rw [hx] at hu; cases hu
    | some y =>
      rw [hx] at hu hk
      simp at hu hk
      subst hu hk
      exact (nums_ok (hok y (List.mem_of_getElem? hx))).1
  · obtain ⟨y, hy, rfl⟩ := List.mem_map.1 hk
    exact (nums_ok (hok y hy)).2 x hx
end Go.Proofs.YtdpbapoahfggeaaDoor
