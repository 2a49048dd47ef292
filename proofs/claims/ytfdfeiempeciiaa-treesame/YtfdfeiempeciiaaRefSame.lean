/- The contract of the document's Same: two rows of texts. -/
import Derived.Test.YtfdfeiempeciiaaTexts2
import Derived.Deep.QuietTactic
import Derived.BigQuiet
namespace Go.Proofs.Ytfdfeiempeciiaa
open Go.ChangeShapes Go.WideShapes Go.ChangeAt Go.RowKit
set_option linter.unusedVariables false

/-- A row of texts. -/
def strC (s : ByteArray) : List Value := [.string s]
def strsAt (w : World) (F : Nat → Prop) (v : Value) (l : List ByteArray) : Prop := RowAt w F 1 v l.length (l.flatMap strC)
theorem strsAt.get {w : World} {F : Nat → Prop} {v : Value} {l : List ByteArray} (h : strsAt w F v l) {k : Nat} {x : ByteArray} (hk : l[k]? = some x) : ∃ g cap, v = .slice (some ⟨g, 0, none⟩) l.length cap ∧ w.cell? ⟨g, k, none⟩ = some (.string x) := by
  obtain ⟨g, cap, e, _, _, r⟩ := RowAt.elem (f := strC) (s := 1) (fun _ => rfl) h hk
  exact ⟨g, cap, e, by have := r 0 _ rfl; simpa using this⟩

set_option maxRecDepth 100000 in
set_option maxHeartbeats 1000000 in
theorem refSame_any (l m : List ByteArray) (v u : Value) (w : World) (F G : Nat → Prop) (hl : strsAt w F v l) (hm : strsAt w G u m) :
    Calls Try.prog 10 #[v, u] w fun e w' => e = .returned (.bool (sameT l m)) ∧ Below w.heap.size w w' := by
  have hn := hl.1.2
  have hn2 := hm.1.2
  obtain ⟨pv, cv, rfl⟩ := hl.form
  by_cases hlm : l.length = m.length
  · obtain ⟨pu, cu, rfl⟩ : ∃ p c, u = .slice p l.length c := by rw [hlm]; exact hm.form
    have EA := hid (eqL_all (fun (a b : ByteArray) => a.toList == b.toList) l m hlm)
    have EN := hid (eqL_not (fun (a b : ByteArray) => a.toList == b.toList) l m)
    have ES : Hid (sameT l m = eqL (fun (a b : ByteArray) => a.toList == b.toList) l m) := hid rfl
    generalize sameT l m = R at *
    have HL := hid hlm
    clear hlm
    go_enter Try.func10, Try.ntmps10
    go_wp2_with fail
    go_loopw [13] (fun i wr => ∃ k : Nat, k ≤ l.length ∧ i = .int .i64 k ∧ Hid (Below w.heap.size w wr ∧ ∀ (j : Nat) (x y : ByteArray), j < k → l[j]? = some x → m[j]? = some y → (x.toList == y.toList) = true)) (fun i _ => l.length - (intOf i).toNat)
    case atStart => exact ⟨0, Nat.zero_le _, rfl, hid ⟨Below.refl _ _, by intro j x y hj; omega⟩⟩
    case round =>
      obtain ⟨k, hk, rfl, hat⟩ := hrel
      by_cases hlt : k < l.length
      · obtain ⟨x, hx⟩ : ∃ x, l[k]? = some x := ⟨_, List.getElem?_eq_getElem hlt⟩
        obtain ⟨y, hy⟩ : ∃ y, m[k]? = some y := ⟨_, List.getElem?_eq_getElem (by have := HL.out; omega)⟩
        obtain ⟨g1, c1, e1, r1⟩ := strsAt.get (hl.kept hat.out.1) hx
        obtain ⟨g2, c2, e2, r2⟩ := strsAt.get (hm.kept hat.out.1) hy
        replace e1 := (Value.slice.inj e1).1
        replace e2 := (Value.slice.inj e2).1
        subst e1
        subst e2
        replace hx := hid hx
        replace hy := hid hy
        clear hl hm
        have hk0 : (0 : Int) ≤ (k : Int) := Int.natCast_nonneg _
        have hk1 : (k : Int) < (l.length : Int) := by omega
        cases hp : (x.toList == y.toList)
        all_goals
          go_wp2_with fail
          go_quiet (fail)
          go_wp2_with fail
        · go_ret
          exact ⟨ret_bool (by rw [ES.out]; exact (EN.out k x y hx.out hy.out hp).symm), (⟨hat.out.1.os, hat.out.1.tape, hat.out.1.output, hat.out.1.size, hat.out.1.block⟩ : Below w.heap.size w (wr.drewN nq))⟩
        · go_roundw
          case rel =>
            refine ⟨k + 1, by omega, by go_num, hid ⟨(⟨hat.out.1.os, hat.out.1.tape, hat.out.1.output, hat.out.1.size, hat.out.1.block⟩ : Below w.heap.size w (wr.drewN nq)), fun j x' y' hj hx' hy' => ?_⟩⟩
            by_cases e : j = k
            · subst e
              have e1 := hx.out
              have e2 := hy.out
              rw [hx'] at e1
              rw [hy'] at e2
              cases e1
              cases e2
              exact hp
            · exact hat.out.2 j x' y' (by omega) hx' hy'
          case measure => simp [intOf]; omega
      · go_wp2_with fail
        go_ret
        have hkl : l.length = k := by omega
        exact ⟨ret_bool (by rw [ES.out]; exact (EA.out fun i x y hx hy => hat.out.2 i x y (by have := (List.getElem?_eq_some_iff.1 hx).1; omega) hx hy).symm), hat.out.1⟩
  · obtain ⟨pu, cu, rfl⟩ := hm.form
    have : sameT l m = false := eqL_len _ l m hlm
    go_enter Try.func10, Try.ntmps10
    go_wp2_with fail
    go_ret
    exact ⟨ret_bool this.symm, Below.refl _ _⟩
end Go.Proofs.Ytfdfeiempeciiaa
