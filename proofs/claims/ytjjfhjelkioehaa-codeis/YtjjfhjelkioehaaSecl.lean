/- The document's Good: sections, plainly. -/
import Derived.Test.YtjjfhjelkioehaaInsl
namespace Go.Proofs.Ytjjfhjelkioehaa
open Go.ChangeShapes Go.WideShapes Go.ChangeAt Go.RowKit
set_option linter.unusedVariables false
set_option linter.unusedSimpArgs false

theorem meet_comm (a b : Sec) : meetB a b = meetB b a := by
  unfold meetB
  rw [show (a.th == b.th) = (b.th == a.th) from by
    by_cases h : a.th = b.th
    · rw [h]
    · rw [beq_eq_false_iff_ne.2 h, beq_eq_false_iff_ne.2 (Ne.symm h)]]
  cases (b.th == a.th) <;> cases decide (a.fr ≤ b.to) <;> cases decide (b.fr ≤ a.to) <;> rfl
theorem secs_all {c : Cd} : (∀ (i : Nat) (s : Sec), c.secs[i]? = some s → secOk c i s ∧ ∀ (k : Nat) (o : Sec), k ≠ i → c.secs[k]? = some o → meetB s o = false) ↔ (∀ (i : Nat) (s : Sec), c.secs[i]? = some s → secOk c i s ∧ ∀ (k : Nat) (o : Sec), k < i → c.secs[k]? = some o → meetB s o = false) := by
  refine ⟨fun h i s hs => ⟨(h i s hs).1, fun k o hk ho => (h i s hs).2 k o (by omega) ho⟩, fun h i s hs => ⟨(h i s hs).1, fun k o hk ho => ?_⟩⟩
  by_cases hki : k < i
  · exact (h i s hs).2 k o hki ho
  · rw [meet_comm]; exact (h k o ho).2 i s (by omega) hs
theorem sec_no1 {c : Cd} {i : Int} {s : Sec} (h : insAt c s.th s.fr = Ins.z) : ¬ secOk c i s := fun k => by
  have e := k.1
  rw [h] at e; simp [Ins.z] at e
theorem sec_no2 {c : Cd} {i : Int} {s : Sec} (h : insAt c s.th s.to = Ins.z) : ¬ secOk c i s := fun k => by
  have e := k.2.2.1
  rw [h] at e; simp [Ins.z] at e
end Go.Proofs.Ytjjfhjelkioehaa
