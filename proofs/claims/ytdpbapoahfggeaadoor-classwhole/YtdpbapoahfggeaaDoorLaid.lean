/- What the rows' list of package variables gives: the library's table. -/
import Derived.Test.YtdpbapoahfggeaaDoorM07
import Derived.Test.YtdpbapoahfggeaaDoorRows
import Derived.Lib.LaidTab
import Derived.MakeChecks
import Derived.Lay
namespace Go.Proofs.YtdpbapoahfggeaaDoor
open Go.ChangeShapes Go.WideShapes Go.ChangeAt Go.RowKit
set_option linter.unusedVariables false

theorem gTab : Tryd.prog.globalNamed "math/bits.deBruijn64tab" = some 0 := by kernel_rfl
theorem tTab : (Tryd.prog.globals[0]?).map (·.type) = some 90 := by kernel_rfl
/-- The row's list, as it stands in each of the rows. -/
def laidL : List (String × DataW Unit) := [("math/bits.deBruijn64tab", Rows.laid_math_bits_deBruijn64tab)]
theorem laid_plain (W : World) : laidMetH Tryd.prog laidL W = laidMet Tryd.prog laidL W := MakeChecks.laidMetH_plain _ _ _ (by kernel_rfl)
theorem laid_gives {W : World} (h : laidMetH Tryd.prog laidL W) : Tab W := by
  rw [laid_plain] at h
  obtain ⟨ps, ⟨g', t', cs, fuel, p, q, hg', ht', hvar, hd, _, _⟩, _⟩ := h
  obtain rfl := Option.some.inj (gTab.symm.trans hg')
  obtain rfl := Option.some.inj (tTab.symm.trans ht')
  have hcs : cs.toList = (deB.map fun (k : Nat) => (k : Int)).map fun z => Value.int .u8 z := Lib.cells_of_tab (zs := deB.map fun (k : Nat) => (k : Int)) (e := 5) Tryd.underlying90 Tryd.underlying5 (by kernel_rfl) (by kernel_rfl) hd
  unfold World.var? at hvar
  rw [gTab] at hvar
  simp only [Option.bind_some] at hvar
  split at hvar
  · rename_i cs' t fr hc
    obtain rfl := Option.some.inj hvar
    refine ⟨t, fr, ?_⟩
    rw [hc]
    congr 2
    rw [← Array.toArray_toList (xs := cs'), hcs, List.map_map]
    rfl
  · cases hvar
end Go.Proofs.YtdpbapoahfggeaaDoor
