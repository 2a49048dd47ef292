/- Slices of items, of uint64 and of int that lie in memory: what is known of them, and that it stays. -/
import Derived.Test.YtefcpidegnddiaaCal
import Derived.Below
import Derived.Deep.Slices
import Derived.Deep.Strs
namespace Go.Proofs.Ytefcpidegnddiaa
open Go.ChangeShapes Go.WideShapes Go.ChangeAt Go.RowKit Go.Deep
set_option linter.unusedVariables false

/-- An item's three cells. -/
def Itm.at (x : Itm) (w : World) (b o : Nat) : Prop := w.cell? ⟨b, o, none⟩ = some (.int .i64 x.op) ∧ w.cell? ⟨b, o + 1, none⟩ = some (.int .i64 x.bin) ∧ w.cell? ⟨b, o + 2, none⟩ = some (.int .u64 x.n)

/-- Items at an address: so many rows of three cells. -/
def ItemsAt (w : World) (a : Option Addr) (xs : List Itm) : Prop :=
  ∀ i, i < xs.length → ∃ b off, a = some ⟨b, off, none⟩ ∧ b < w.heap.size ∧ (xs.getD i Itm.blank).at w b (off + i * 3) ∧ (xs.getD i Itm.blank).ok

/-- Numbers of a kind at an address. -/
def NumsAt (k : IntKind) (w : World) (a : Option Addr) (ns : List Int) : Prop :=
  ∀ i, i < ns.length → ∃ b off, a = some ⟨b, off, none⟩ ∧ b < w.heap.size ∧ w.cell? ⟨b, off + i, none⟩ = some (.int k (ns.getD i 0)) ∧ (Lit.int k (ns.getD i 0)).wf = true

theorem ItemsAt.kept {w w' : World} {a : Option Addr} {xs : List Itm} (h : ItemsAt w a xs) (hb : Below w.heap.size w w') : ItemsAt w' a xs := by
  intro i hi
  obtain ⟨b, off, e, hlt, ⟨c0, c1, c2⟩, ho⟩ := h i hi
  refine ⟨b, off, e, Nat.lt_of_lt_of_le hlt hb.size, ⟨?_, ?_, ?_⟩, ho⟩
  · rw [hb.cell hlt]; exact c0
  · rw [hb.cell hlt]; exact c1
  · rw [hb.cell hlt]; exact c2

theorem NumsAt.kept {k : IntKind} {w w' : World} {a : Option Addr} {ns : List Int} (h : NumsAt k w a ns) (hb : Below w.heap.size w w') : NumsAt k w' a ns := by
  intro i hi
  obtain ⟨b, off, e, hlt, c0, ho⟩ := h i hi
  exact ⟨b, off, e, Nat.lt_of_lt_of_le hlt hb.size, by rw [hb.cell hlt]; exact c0, ho⟩

theorem ItemsAt.nil (w : World) (a : Option Addr) : ItemsAt w a [] := fun i hi => by simp at hi
theorem NumsAt.nil (k : IntKind) (w : World) (a : Option Addr) : NumsAt k w a [] := fun i hi => by simp at hi

/-- As an argument: a slice of items, of numbers. -/
def IsItems (w : World) (v : Value) (xs : List Itm) : Prop := ∃ (a : Option Addr) (cap : Nat), v = .slice a xs.length cap ∧ ItemsAt w a xs
def IsNums (k : IntKind) (w : World) (v : Value) (ns : List Int) : Prop := ∃ (a : Option Addr) (cap : Nat), v = .slice a ns.length cap ∧ NumsAt k w a ns

theorem Try.cells36 : Try.prog.cellsOf 36 = 3 := by kernel_rfl
theorem Try.cells3 : Try.prog.cellsOf 3 = 1 := by kernel_rfl
theorem Try.cells26 : Try.prog.cellsOf 26 = 1 := by kernel_rfl

theorem three (w : World) (a : Addr) (cs : List Value) (h : w.cells? 0 a 3 = some cs) : ∃ c0 c1 c2, cs = [c0, c1, c2] ∧ w.cell? a = some c0 ∧ w.cell? (a.add 1) = some c1 ∧ w.cell? (a.add 2) = some c2 := by
  simp [World.cells?, List.range_succ] at h
  have e0 : a.add 0 = a := by simp [Addr.add]
  rw [e0] at h
  cases h0 : w.cell? a with
  | none => simp [h0] at h
  | some c0 =>
    cases h1 : w.cell? (a.add 1) with
    | none => simp [h0, h1] at h
    | some c1 =>
      cases h2 : w.cell? (a.add 2) with
      | none => simp [h0, h1, h2] at h
      | some c2 =>
        simp [h0, h1, h2] at h
        exact ⟨c0, c1, c2, h.symm, rfl, rfl, rfl⟩

theorem oneC (w : World) (a : Addr) (cs : List Value) (h : w.cells? 0 a 1 = some cs) : ∃ c0, cs = [c0] ∧ w.cell? a = some c0 := by
  simp [World.cells?, List.range_succ] at h
  have e0 : a.add 0 = a := by simp [Addr.add]
  rw [e0] at h
  cases h0 : w.cell? a with
  | none => simp [h0] at h
  | some c0 =>
    simp [h0] at h
    exact ⟨c0, h.symm, rfl⟩

theorem open22 {H : Type} {enc : TypeId × Value → H} {W : World} {base : Nat} {v : Value} {d : DataW H} {p : List MemPlace} (hv : Value.okWide Try.prog W .any base 22 v) (h : DataW.Trod enc Try.prog W 0 (fun _ => true) true 22 v d p) :
    ∃ xs, IsItems W v xs := by
  obtain ⟨a0, len, cap, rfl⟩ := okWide_slice Try.underlying22 hv
  obtain ⟨fuel, hf⟩ := h
  rcases open_slice Try.underlying22 hf with ⟨hcs, _⟩ | ⟨a, l, c, m, n, D, Pl, hcs, _, hl, hm, hmm, _, hel⟩
  · simp [Value.cells] at hcs
    obtain ⟨rfl, rfl, rfl⟩ := hcs
    exact ⟨[], none, 0, rfl, ItemsAt.nil _ _⟩
  · simp [Value.cells] at hcs
    obtain ⟨rfl, rfl, rfl⟩ := hcs
    simp only [if_true] at hmm
    subst hmm
    have hspot : 0 < len → a.spot = none := by
      intro h0
      obtain ⟨cs', h1, h2⟩ := hel 0 (by omega)
      rw [Try.cells36] at h1
      obtain ⟨c0, c1, c2, rfl, g0, g1, g2⟩ := three _ _ _ h1
      have := World.cell?_spot g0
      simpa [Addr.add] using this
    have hex : ∀ i, i < len → ∃ x : Itm, ∃ b off, (some a) = some ⟨b, off, none⟩ ∧ b < W.heap.size ∧ x.at W b (off + i * 3) ∧ x.ok := by
      intro i hi
      obtain ⟨cs', h1, h2⟩ := hel i (by omega)
      rw [Try.cells36] at h1
      obtain ⟨c0, c1, c2, rfl, g0, g1, g2⟩ := three _ _ _ h1
      obtain ⟨y0, y1, y2, n', _, _, t0, t1, t2⟩ := trod_struct3 Try.underlying36 h2
      simp only [Try.cells3, Try.cells26] at t0 t1 t2
      obtain ⟨k, e0, _, w0⟩ := DataW.trod_int Try.underlying3 t0
      obtain ⟨u, e1, _, w1⟩ := DataW.trod_int Try.underlying3 t1
      obtain ⟨s, e2, _, w2⟩ := DataW.trod_int Try.underlying26 t2
      simp at e0 e1 e2
      subst e0 e1 e2
      have b0 := bounds_i64 w0
      have b1 := bounds_i64 w1
      have b2 := bounds_u64 w2
      obtain ⟨b, off, sp⟩ := a
      have hsp : sp = none := hspot (by omega)
      subst hsp
      simp only [add_plain] at g0 g1 g2
      exact ⟨⟨k, u, s⟩, b, off, rfl, World.block_lt_of_cell? W _ g0, ⟨g0, g1, g2⟩, ⟨b0.1, b0.2, b1.1, b1.2, b2.1, b2.2⟩⟩
    obtain ⟨f, hf⟩ := @choose_lt Itm ⟨Itm.blank⟩ _ _ hex
    refine ⟨(List.range len).map f, some a, m, by simp, fun i hi => ?_⟩
    simp at hi
    obtain ⟨b, off, e1, e2, e3, e4⟩ := hf i hi
    refine ⟨b, off, e1, e2, ?_, ?_⟩
    · simpa [List.getD, hi] using e3
    · simpa [List.getD, hi] using e4

theorem open_nums {H : Type} {enc : TypeId × Value → H} {W : World} {base : Nat} {v : Value} {d : DataW H} {p : List MemPlace} {t e : TypeId} {k : IntKind} (hs : Try.prog.underlying t = some (.slice e)) (he : Try.prog.underlying e = some (.int k)) (hc : Try.prog.cellsOf e = 1)
    (hv : Value.okWide Try.prog W .any base t v) (h : DataW.Trod enc Try.prog W 0 (fun _ => true) true t v d p) :
    ∃ xs, IsNums k W v xs := by
  obtain ⟨a0, len, cap, rfl⟩ := okWide_slice hs hv
  obtain ⟨fuel, hf⟩ := h
  rcases open_slice hs hf with ⟨hcs, _⟩ | ⟨a, l, c, m, n, D, Pl, hcs, _, hl, hm, hmm, _, hel⟩
  · simp [Value.cells] at hcs
    obtain ⟨rfl, rfl, rfl⟩ := hcs
    exact ⟨[], none, 0, rfl, NumsAt.nil _ _ _⟩
  · simp [Value.cells] at hcs
    obtain ⟨rfl, rfl, rfl⟩ := hcs
    simp only [if_true] at hmm
    subst hmm
    have hspot : 0 < len → a.spot = none := by
      intro h0
      obtain ⟨cs', h1, h2⟩ := hel 0 (by omega)
      rw [hc] at h1
      obtain ⟨c0, rfl, g0⟩ := oneC _ _ _ h1
      have := World.cell?_spot g0
      simpa [Addr.add] using this
    have hex : ∀ i, i < len → ∃ x : Int, ∃ b off, (some a) = some ⟨b, off, none⟩ ∧ b < W.heap.size ∧ W.cell? ⟨b, off + i, none⟩ = some (.int k x) ∧ (Lit.int k x).wf = true := by
      intro i hi
      obtain ⟨cs', h1, h2⟩ := hel i (by omega)
      rw [hc] at h1
      obtain ⟨c0, rfl, g0⟩ := oneC _ _ _ h1
      obtain ⟨x, e0, _, w0⟩ := DataW.trod_int he h2
      simp at e0
      subst e0
      obtain ⟨b, off, sp⟩ := a
      have hsp : sp = none := hspot (by omega)
      subst hsp
      simp only [add_plain, Nat.mul_one] at g0
      exact ⟨x, b, off, rfl, World.block_lt_of_cell? W _ g0, g0, w0⟩
    obtain ⟨f, hf⟩ := @choose_lt Int ⟨0⟩ _ _ hex
    refine ⟨(List.range len).map f, some a, m, by simp, fun i hi => ?_⟩
    simp at hi
    obtain ⟨b, off, e1, e2, e3, e4⟩ := hf i hi
    refine ⟨b, off, e1, e2, ?_, ?_⟩
    · simpa [List.getD, hi] using e3
    · simpa [List.getD, hi] using e4

theorem open23 {H : Type} {enc : TypeId × Value → H} {W : World} {base : Nat} {v : Value} {d : DataW H} {p : List MemPlace} (hv : Value.okWide Try.prog W .any base 23 v) (h : DataW.Trod enc Try.prog W 0 (fun _ => true) true 23 v d p) :
    ∃ xs, IsNums .u64 W v xs := open_nums Try.underlying23 Try.underlying26 Try.cells26 hv h
theorem open24 {H : Type} {enc : TypeId × Value → H} {W : World} {base : Nat} {v : Value} {d : DataW H} {p : List MemPlace} (hv : Value.okWide Try.prog W .any base 24 v) (h : DataW.Trod enc Try.prog W 0 (fun _ => true) true 24 v d p) :
    ∃ xs, IsNums .i64 W v xs := open_nums Try.underlying24 Try.underlying3 Try.cells3 hv h
end Go.Proofs.Ytefcpidegnddiaa
