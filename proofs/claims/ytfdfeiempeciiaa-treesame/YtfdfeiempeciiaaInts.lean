/- What is known of a slice of whole numbers that came in. -/
import Derived.Test.YtfdfeiempeciiaaMk
import Derived.Deep.Slices
import Derived.Deep.Strs
namespace Go.Proofs.Ytfdfeiempeciiaa
open Go.ChangeShapes Go.WideShapes Go.ChangeAt Go.RowKit Go.Deep
set_option linter.unusedVariables false

theorem Try.cells3 : Try.prog.cellsOf 3 = 1 := by kernel_rfl
theorem one_cell (w : World) (a : Addr) (cs : List Value) (h : w.cells? 0 a 1 = some cs) : ∃ c0, cs = [c0] ∧ w.cell? a = some c0 := by
  simp [World.cells?, List.range_succ] at h
  have e0 : a.add 0 = a := by simp [Addr.add]
  rw [e0] at h
  cases h0 : w.cell? a with
  | none => simp [h0] at h
  | some c0 =>
    simp [h0] at h
    exact ⟨c0, h.symm, rfl⟩
set_option maxRecDepth 100000 in
theorem open22 {H : Type} {enc : TypeId × Value → H} {W : World} {base : Nat} {v : Value} {d : DataW H} {p : List MemPlace} (hv : Value.okWide Try.prog W .any base 22 v) (h : DataW.Trod enc Try.prog W 0 (fun _ => true) true 22 v d p) :
    ∃ xs, IsInts W W.heap.size v xs := by
  obtain ⟨a0, len, cap, rfl⟩ := okWide_slice Try.underlying22 hv
  obtain ⟨fuel, hf⟩ := h
  rcases open_slice Try.underlying22 hf with ⟨hcs, _⟩ | ⟨a, l, c, m, n, D, Pl, hcs, _, hl, hm, hmm, _, hel⟩
  · simp [Value.cells] at hcs
    obtain ⟨rfl, rfl, rfl⟩ := hcs
    exact ⟨[], none, 0, rfl, fun i x hx => by simp at hx⟩
  · simp [Value.cells] at hcs
    obtain ⟨rfl, rfl, rfl⟩ := hcs
    simp only [if_true] at hmm
    subst hmm
    have hspot : 0 < len → a.spot = none := by
      intro h0
      obtain ⟨cs', h1, h2⟩ := hel 0 (by omega)
      rw [Try.cells3] at h1
      obtain ⟨c0, rfl, g0⟩ := one_cell _ _ _ h1
      have := World.cell?_spot g0
      simpa [Addr.add] using this
    have hex : ∀ i, i < len → ∃ x : Int, ∃ b off, (some a) = some ⟨b, off, none⟩ ∧ b < W.heap.size ∧ W.cell? ⟨b, off + i, none⟩ = some (.int .i64 x) ∧ I64 x := by
      intro i hi
      obtain ⟨cs', h1, h2⟩ := hel i (by omega)
      rw [Try.cells3] at h1
      obtain ⟨c0, rfl, g0⟩ := one_cell _ _ _ h1
      obtain ⟨k, e0, _, w0⟩ := DataW.trod_int Try.underlying3 h2
      simp at e0
      subst e0
      have b0 := bounds_i64 w0
      obtain ⟨b, off, s⟩ := a
      have hsp : s = none := hspot (by omega)
      subst hsp
      simp only [Nat.mul_one] at g0
      have e : (⟨b, off, none⟩ : Addr).add i = ⟨b, off + i, none⟩ := by unfold Addr.add; split <;> simp_all
      rw [e] at g0
      exact ⟨k, b, off, rfl, World.block_lt_of_cell? W _ g0, g0, b0⟩
    obtain ⟨f, hf⟩ := @choose_lt Int ⟨0⟩ _ _ hex
    refine ⟨(List.range len).map f, some a, m, by simp, fun i x hx => ?_⟩
    have hi : i < len := by
      have := (List.getElem?_eq_some_iff.1 hx).1
      simpa using this
    simp [hi] at hx
    subst hx
    exact hf i hi
end Go.Proofs.Ytfdfeiempeciiaa
