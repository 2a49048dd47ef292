/- The contract of do, whole. -/
import Derived.Test.YtkdpcaoocmbbhaaDoorEs
namespace Go.Proofs.YtkdpcaoocmbbhaaDoor
open Go.ChangeShapes Go.WideShapes Go.ChangeAt Go.RowKit
set_option linter.unusedVariables false

theorem op4_no {c : Cd} (g : GoodP c) {i : Nat} {t : Bd} {k : Nat} {x : Ins} (ht : c.threads[i]? = some t) (hx : t.code[k]? = some x) (ho : x.op = 4 ∨ x.op = 10) : meansL (slotOf t x) = false := by
  have h := (g.ths i t ht).2.2.2.2.2 k x hx
  unfold insOk at h
  simp only [Bool.and_eq_true] at h
  have h5 := h.2.2.2.2
  have hk : (slotOf t x).kind = 1 := by
    unfold agreesB at h5
    unfold slotOf
    rcases ho with e | e <;> rw [e] at h5 <;> simp [holdsB] at h5
    · exact h5.1.1
    · exact h5.1.1
  unfold meansL
  rw [hk]
  rfl

theorem ops_of {c : Cd} (g : GoodP c) {i : Nat} {t : Bd} {k : Nat} {x : Ins} (ht : c.threads[i]? = some t) (hx : t.code[k]? = some x) (tg : tgtM c t x = true) : x.op = 1 ∨ x.op = 2 ∨ x.op = 3 ∨ x.op = 5 ∨ x.op = 6 ∨ x.op = 8 ∨ x.op = 9 := by
  unfold tgtM at tg
  split at tg
  · rename_i hD
    have : x.op = 1 ∨ x.op = 2 ∨ x.op = 3 ∨ x.op = 4 ∨ x.op = 8 ∨ x.op = 9 ∨ x.op = 10 := by
      unfold hasD at hD
      simp only [Bool.or_eq_true, beq_iff_eq] at hD
      omega
    rcases this with e | e | e | e | e | e | e
    · omega
    · omega
    · omega
    · rw [op4_no g ht hx (.inl e)] at tg; cases tg
    · omega
    · omega
    · rw [op4_no g ht hx (.inr e)] at tg; cases tg
  · split at tg
    · rename_i h; have : x.op = 5 := by simpa using h
      omega
    · split at tg
      · rename_i h; have : x.op = 6 := by simpa using h
        omega
      · cases tg

theorem do_any {W : World} {sb base top : Nat} {c : Cd} {v0 v1 v2 : Value} {g : Bool} {R : List (List Nat)} {V : Nat → Value} {B : Nat → Nat} {t : Bd} {s : Stp} (h : Fed W sb base top c v0 v1 v2 g R V B t s) (hTab : Tab W) (hb0 : 0 < base) (hs0 : 0 < sb) (W0 : World) (hW0 : W0.heap.size ≤ base) (hW1 : W0.heap.size ≤ sb) (hSt : Stes W0 c.ev c.sites) (hBl : Below W0.heap.size W0 W) :
    Calls Tryd.prog 23 #[.pointer (some ⟨sb, 0, none⟩), .agg s.cells.toArray] W fun e W' => e = .returned (.tuple #[]) ∧ ∃ R', Sol W' sb base top c v0 v1 v2 (g || decide (R' ≠ R)) R' V B ∧ Grew c s.i t s.x R R' ∧ Touch (Own base top sb) W W' := by
  obtain ⟨j, hx⟩ := h.co
  rcases ops_of h.good h.th hx h.tg with e | e | e | e | e | e | e
  · exact do1 h e
  · exact do2 h e
  · exact do3 h e hTab hb0 hs0
  · exact do5 h e
  · exact do6 h e hTab hb0 hs0 W0 hW0 hW1 hSt hBl
  · exact do8 h e
  · exact do9 h e
end Go.Proofs.YtkdpcaoocmbbhaaDoor
