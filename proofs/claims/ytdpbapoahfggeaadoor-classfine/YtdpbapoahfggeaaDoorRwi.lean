/- Items at an address. -/
import Derived.Test.YtdpbapoahfggeaaDoorDat
namespace Go.Proofs.YtdpbapoahfggeaaDoor
open Go.ChangeShapes Go.WideShapes Go.ChangeAt Go.RowKit Go.Deep
set_option linter.unusedVariables false

/-- An item's three cells. -/
def Itm.at (x : Itm) (w : World) (b o : Nat) : Prop := w.cell? ⟨b, o, none⟩ = some (.int .i64 x.op) ∧ w.cell? ⟨b, o + 1, none⟩ = some (.int .i64 x.bin) ∧ w.cell? ⟨b, o + 2, none⟩ = some (.int .u64 x.n)

/-- Items at an address: so many rows of three cells. -/
def ItemsAt (w : World) (a : Option Addr) (xs : List Itm) : Prop :=
  ∀ i, i < xs.length → ∃ b off, a = some ⟨b, off, none⟩ ∧ b < w.heap.size ∧ (xs.getD i Itm.blank).at w b (off + i * 3) ∧ (xs.getD i Itm.blank).ok

theorem ItemsAt.kept {w w' : World} {a : Option Addr} {xs : List Itm} (h : ItemsAt w a xs) (hb : Below w.heap.size w w') : ItemsAt w' a xs := by
  intro i hi
  obtain ⟨b, off, e, hlt, ⟨c0, c1, c2⟩, ho⟩ := h i hi
  refine ⟨b, off, e, Nat.lt_of_lt_of_le hlt hb.size, ⟨?_, ?_, ?_⟩, ho⟩
  · rw [hb.cell hlt]; exact c0
  · rw [hb.cell hlt]; exact c1
  · rw [hb.cell hlt]; exact c2

theorem Items.at {w : World} {v : Value} {xs : List Itm} (h : Items w v xs) : ∃ a cap, v = .slice a xs.length cap ∧ ItemsAt w a xs := by
  obtain ⟨a, cap, h1, h2, h3, h4, h5, h6⟩ := h
  refine ⟨a, cap, h1, fun i hi => ?_⟩
  obtain ⟨b, off, e, hlt, hr, ho⟩ := h6 i (xs.getD i Itm.blank) (by simp [List.getD, hi])
  exact ⟨b, off, e, hlt, ⟨hr 0 _ rfl, hr 1 _ rfl, hr 2 _ rfl⟩, ho⟩
end Go.Proofs.YtdpbapoahfggeaaDoor
