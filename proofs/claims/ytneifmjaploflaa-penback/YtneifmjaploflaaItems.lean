/- What is known of a slice of the laws' items that came in. -/
import Derived.Test.YtneifmjaploflaaPuts
import Derived.Deep.Slices
import Derived.Deep.Strs
namespace Go.Proofs.Ytneifmjaploflaa
open Go.ChangeShapes Go.WideShapes Go.ChangeAt Go.RowKit Go.Deep
open PenMath
set_option linter.unusedVariables false

/-- An item. -/
structure It where
  k : Int
  n : Nat
  s : List UInt8

def It.blank : It := ⟨0, 0, []⟩

def It.ok (x : It) : Prop := -9223372036854775808 ≤ x.k ∧ x.k ≤ 9223372036854775807 ∧ x.n < 18446744073709551616 ∧ x.s.length ≤ maxLen

/-- Its three cells. -/
def It.at (x : It) (w : World) (b o : Nat) : Prop := w.cell? ⟨b, o, none⟩ = some (.int .i64 x.k) ∧ w.cell? ⟨b, o + 1, none⟩ = some (.int .u64 x.n) ∧ w.cell? ⟨b, o + 2, none⟩ = some (.string (bstr x.s))

/-- A slice of items: nil; or so many rows of three cells. -/
def IsItems (w : World) (v : Value) (xs : List It) : Prop :=
  ∃ (a : Option Addr) (cap : Nat), v = .slice a xs.length cap ∧ ∀ i, i < xs.length → ∃ b off, a = some ⟨b, off, none⟩ ∧ b < w.heap.size ∧ (xs.getD i It.blank).at w b (off + i * 3) ∧ (xs.getD i It.blank).ok

theorem Try.cells30 : Try.prog.cellsOf 30 = 3 := by kernel_rfl
theorem Try.cells3 : Try.prog.cellsOf 3 = 1 := by kernel_rfl
theorem Try.cells28 : Try.prog.cellsOf 28 = 1 := by kernel_rfl
theorem Try.cells9 : Try.prog.cellsOf 9 = 1 := by kernel_rfl

theorem three (w : World) (a : Addr) (cs : List Value) (h : w.cells? 0 a 3 = some cs) : ∃ c0 c1 c2, cs = [c0, c1, c2] ∧ w.cell? a = some c0 ∧ w.cell? (a.add 1) = some c1 ∧ w.cell? (a.add 2) = some c2 := by
  simp [World.cells?, List.range_succ] at h
  have e0 : a.add 0 = a := by simp [Addr.add]
  rw [e0] at h
  cases h0 : w.cell? a with
  | none => simp [h0] at h
  | some c0 =>
    cases h1 : w.cell? (a.add 1) with
    | none => simp [h0, h1] at h
    | some c1 =>
      cases h2 : w.cell? (a.add 2) with
      | none => simp [h0, h1, h2] at h
      | some c2 =>
        simp [h0, h1, h2] at h
        exact ⟨c0, c1, c2, h.symm, rfl, rfl, rfl⟩

theorem bounds_of_i64 {x : Int} (h : (Lit.int .i64 x).wf = true) : -9223372036854775808 ≤ x ∧ x ≤ 9223372036854775807 := bounds_i64 h

theorem open22 {H : Type} {enc : TypeId × Value → H} {W : World} {base : Nat} {v : Value} {d : DataW H} {p : List MemPlace} (hv : Value.okWide Try.prog W .any base 22 v) (h : DataW.Trod enc Try.prog W 0 (fun _ => true) true 22 v d p) :
    ∃ xs, IsItems W v xs := by
  obtain ⟨a0, len, cap, rfl⟩ := okWide_slice Try.underlying22 hv
  obtain ⟨fuel, hf⟩ := h
  rcases open_slice Try.underlying22 hf with ⟨hcs, _⟩ | ⟨a, l, c, m, n, D, Pl, hcs, _, hl, hm, hmm, _, hel⟩
  · simp [Value.cells] at hcs
    obtain ⟨rfl, rfl, rfl⟩ := hcs
    exact ⟨[], none, 0, rfl, fun i hi => by simp at hi⟩
  · simp [Value.cells] at hcs
    obtain ⟨rfl, rfl, rfl⟩ := hcs
    simp only [if_true] at hmm
    subst hmm
    have hspot : 0 < len → a.spot = none := by
      intro h0
      obtain ⟨cs', h1, h2⟩ := hel 0 (by omega)
      rw [Try.cells30] at h1
      obtain ⟨c0, c1, c2, rfl, g0, g1, g2⟩ := three _ _ _ h1
      have := World.cell?_spot g0
      simpa [Addr.add] using this
    have hex : ∀ i, i < len → ∃ x : It, ∃ b off, (some a) = some ⟨b, off, none⟩ ∧ b < W.heap.size ∧ x.at W b (off + i * 3) ∧ x.ok := by
      intro i hi
      obtain ⟨cs', h1, h2⟩ := hel i (by omega)
      rw [Try.cells30] at h1
      obtain ⟨c0, c1, c2, rfl, g0, g1, g2⟩ := three _ _ _ h1
      obtain ⟨y0, y1, y2, n', _, _, t0, t1, t2⟩ := trod_struct3 Try.underlying30 h2
      simp only [Try.cells3, Try.cells28, Try.cells9] at t0 t1 t2
      obtain ⟨k, e0, _, w0⟩ := DataW.trod_int Try.underlying3 t0
      obtain ⟨u, e1, _, w1⟩ := DataW.trod_int Try.underlying28 t1
      obtain ⟨s, e2, _, w2⟩ := DataW.trod_string Try.underlying9 t2
      simp at e0 e1 e2
      subst e0 e1 e2
      have b0 := bounds_i64 w0
      have b1 := bounds_u64 w1
      obtain ⟨b, off, sp⟩ := a
      have hsp : sp = none := hspot (by omega)
      subst hsp
      simp only [add_plain] at g0 g1 g2
      refine ⟨⟨k, u.toNat, s.data.toList⟩, b, off, rfl, World.block_lt_of_cell? W _ g0, ⟨?_, ?_, ?_⟩, ⟨b0.1, b0.2, by simp only; omega, ?_⟩⟩
      · exact g0
      · rw [g1]; simp only [Option.some.injEq, Value.int.injEq, true_and]; omega
      · rw [g2]; simp only [bstr_of]
      · simp only; have : s.data.toList.length = s.size := by simp
        omega
    obtain ⟨f, hf⟩ := @choose_lt It ⟨It.blank⟩ _ _ hex
    refine ⟨(List.range len).map f, some a, m, by simp, fun i hi => ?_⟩
    simp at hi
    obtain ⟨b, off, e1, e2, e3, e4⟩ := hf i hi
    refine ⟨b, off, e1, e2, ?_, ?_⟩
    · simpa [List.getD, hi] using e3
    · simpa [List.getD, hi] using e4
end Go.Proofs.Ytneifmjaploflaa
