/- The rows of sets that lie in memory. -/
import Derived.Test.YtkdpcaoocmbbhaaDoorSv
namespace Go.Proofs.YtkdpcaoocmbbhaaDoor
open Go.ChangeShapes Go.WideShapes Go.ChangeAt Go.RowKit Go.Deep
set_option linter.unusedVariables false

section
variable {base top : Nat} {u0 u1 u2 : Value} {R1 : List (List Nat)} {V1 : Nat → Value} {B1 : Nat → Nat} {X : World}
theorem SetsM.rowT {nT nS i : Nat} (h : SetsM X base top nT nS u0 u1 u2 R1 V1 B1) (hi : i < nT) : ∃ ob oo oc a cp, u0 = .slice (some ⟨ob, oo, none⟩) nT oc ∧ base ≤ ob ∧ ob < top ∧ ob < X.heap.size ∧ X.cell? ⟨ob, oo + i, none⟩ = some (.slice a (R1.getD i []).length cp) ∧ ¬ InR R1 B1 ob ∧ ∀ j, j < (R1.getD i []).length → a = some ⟨B1 i, 0, none⟩ ∧ VarAt X (B1 i) (cellsN (R1.getD i [])) 44 ∧ X.cell? ⟨B1 i, j, none⟩ = some (.int .u64 ((gR R1 i j : Nat) : Int)) := by
  obtain ⟨oa, oc, e0, ho⟩ := h.o0
  obtain ⟨ob, oo, e1, g1, g2, g3, g4, g5⟩ := ho i hi
  subst e1
  obtain ⟨a, cp, ea⟩ := h.form (r := i) (by rw [h.len]; omega)
  rw [ea] at g5
  refine ⟨ob, oo, oc, a, cp, e0, g1, g2, g3, g5, g4, fun j hj => ?_⟩
  obtain ⟨cc, e2, k1, -, -, k4⟩ := h.at (r := i) hj
  rw [ea] at e2
  obtain ⟨rfl, -, rfl⟩ := Value.slice.inj e2
  exact ⟨rfl, k1, k4⟩
theorem SetsM.rowS {nT nS i : Nat} (h : SetsM X base top nT nS u0 u1 u2 R1 V1 B1) (hi : i < nS) : ∃ ob oo oc a cp, u2 = .slice (some ⟨ob, oo, none⟩) nS oc ∧ base ≤ ob ∧ ob < top ∧ ob < X.heap.size ∧ X.cell? ⟨ob, oo + i, none⟩ = some (.slice a (R1.getD (nT + 1 + i) []).length cp) ∧ ¬ InR R1 B1 ob ∧ ∀ j, j < (R1.getD (nT + 1 + i) []).length → a = some ⟨B1 (nT + 1 + i), 0, none⟩ ∧ VarAt X (B1 (nT + 1 + i)) (cellsN (R1.getD (nT + 1 + i) [])) 44 ∧ X.cell? ⟨B1 (nT + 1 + i), j, none⟩ = some (.int .u64 ((gR R1 (nT + 1 + i) j : Nat) : Int)) := by
  obtain ⟨oa, oc, e0, ho⟩ := h.o2
  obtain ⟨ob, oo, e1, g1, g2, g3, g4, g5⟩ := ho i hi
  subst e1
  obtain ⟨a, cp, ea⟩ := h.form (r := nT + 1 + i) (by rw [h.len]; omega)
  dsimp only at g5
  rw [ea] at g5
  refine ⟨ob, oo, oc, a, cp, e0, g1, g2, g3, g5, g4, fun j hj => ?_⟩
  obtain ⟨cc, e2, k1, -, -, k4⟩ := h.at (r := nT + 1 + i) hj
  rw [ea] at e2
  obtain ⟨rfl, -, rfl⟩ := Value.slice.inj e2
  exact ⟨rfl, k1, k4⟩
theorem SetsM.rowGl {nT nS : Nat} (h : SetsM X base top nT nS u0 u1 u2 R1 V1 B1) : ∃ a cp, u1 = .slice a (R1.getD nT []).length cp ∧ ∀ j, j < (R1.getD nT []).length → a = some ⟨B1 nT, 0, none⟩ ∧ VarAt X (B1 nT) (cellsN (R1.getD nT [])) 44 ∧ X.cell? ⟨B1 nT, j, none⟩ = some (.int .u64 ((gR R1 nT j : Nat) : Int)) := by
  obtain ⟨a, cp, ea⟩ := h.form (r := nT) (by rw [h.len]; omega)
  refine ⟨a, cp, h.one.trans ea, fun j hj => ?_⟩
  obtain ⟨cc, e2, k1, -, -, k4⟩ := h.at (r := nT) hj
  rw [ea] at e2
  obtain ⟨rfl, -, rfl⟩ := Value.slice.inj e2
  exact ⟨rfl, k1, k4⟩
end
end Go.Proofs.YtkdpcaoocmbbhaaDoor
