/- Letters, plainly, and the contracts of lex's small functions on letters. -/
import Derived.Test.YtdankjkmgcclhaaDoorRows
import Derived.WalkKit
import Derived.ProofKit
import Derived.OpenShut
import Derived.WalkSpells
import Derived.WalkLawsBesides
import Derived.Lib.Strings
import Derived.Laws.RangeAny
import Derived.Below
namespace Go.Proofs.YtdankjkmgcclhaaDoor
open Go.ChangeShapes Go.WideShapes Go.ChangeAt Go.RowKit
set_option linter.unusedVariables false

/-- A letter is one of a whole number's. -/
def digR (r : Int) : Bool := decide (48 ≤ r) && decide (r ≤ 57)
/-- A letter may stand in a row. -/
def partR (r : Int) : Bool := ((decide (97 ≤ r) && decide (r ≤ 122)) || (decide (65 ≤ r) && decide (r ≤ 90)) || decide (r = 95)) || digR r
/-- A letter tells bits. -/
def hexR (r : Int) : Bool := digR r || (decide (97 ≤ r) && decide (r ≤ 102))

theorem ret_bool {a b : Bool} (h : a = b) : Ending.returned (.bool a) = .returned (.bool b) := by rw [h]
theorem ret_i64 {a b : Int} (h : a = b) : Ending.returned (.int .i64 a) = .returned (.int .i64 b) := by rw [h]
theorem ret_str {a b : ByteArray} (h : a = b) : Ending.returned (.string a) = .returned (.string b) := by rw [h]

set_option maxRecDepth 100000 in
theorem digit_any (r : Int) (w : World) : Calls Tryd.prog 21 #[.int .i32 r] w fun e w' => e = .returned (.bool (digR r)) ∧ w' = w := by
  by_cases h0 : 48 ≤ r <;> by_cases h1 : r ≤ 57
  all_goals
    have E : Hid (digR r = (decide (48 ≤ r) && decide (r ≤ 57))) := rfl
    go_enter Tryd.func21, Tryd.ntmps21
    go_wp2
    go_ret
    refine ⟨ret_bool ?_, rfl⟩
    rw [E.out]
    simp [h0, h1]

set_option maxRecDepth 100000 in
theorem part_any (r : Int) (w : World) : Calls Tryd.prog 23 #[.int .i32 r] w fun e w' => e = .returned (.bool (partR r)) ∧ w' = w := by
  have D := fun W => digit_any r W
  have E : Hid (partR r = (((decide (97 ≤ r) && decide (r ≤ 122)) || (decide (65 ≤ r) && decide (r ≤ 90)) || decide (r = 95)) || digR r)) := rfl
  generalize digR r = d at D E
  generalize partR r = q at E
  by_cases h0 : 97 ≤ r
  · by_cases h1 : r ≤ 122
    · go_enter Tryd.func23, Tryd.ntmps23
      go_wp2
      go_ret
      exact ⟨ret_bool (by rw [E.out]; simp [h0, h1]), rfl⟩
    · have h2 : 65 ≤ r := by omega
      have h3 : ¬ r ≤ 90 := by omega
      have h4 : ¬ r = 95 := by omega
      have K : Hid (q = d ∧ (r == 95) = false) := ⟨by rw [E.out]; simp [h1, h3, h4], by simp [h4]⟩
      go_enter Tryd.func23, Tryd.ntmps23
      go_wp2_with (go_at_call 21; refine (D _).mono ?_; rintro e w' ⟨rfl, rfl⟩)
      go_ret
      exact ⟨ret_bool (by rw [K.out.1, K.out.2]; rfl), rfl⟩
  · by_cases h2 : 65 ≤ r
    · by_cases h3 : r ≤ 90
      · go_enter Tryd.func23, Tryd.ntmps23
        go_wp2
        go_ret
        exact ⟨ret_bool (by rw [E.out]; simp [h2, h3]), rfl⟩
      · by_cases h4 : r = 95
        · subst h4
          go_enter Tryd.func23, Tryd.ntmps23
          go_wp2
          go_ret
          exact ⟨ret_bool (by rw [E.out]; simp), rfl⟩
        · have K : Hid (q = d ∧ (r == 95) = false) := ⟨by rw [E.out]; simp [h0, h3, h4], by simp [h4]⟩
          go_enter Tryd.func23, Tryd.ntmps23
          go_wp2_with (go_at_call 21; refine (D _).mono ?_; rintro e w' ⟨rfl, rfl⟩)
          go_ret
          exact ⟨ret_bool (by rw [K.out.1, K.out.2]; rfl), rfl⟩
    · have h4 : ¬ r = 95 := by omega
      have K : Hid (q = d ∧ (r == 95) = false) := ⟨by rw [E.out]; simp [h0, h2, h4], by simp [h4]⟩
      go_enter Tryd.func23, Tryd.ntmps23
      go_wp2_with (go_at_call 21; refine (D _).mono ?_; rintro e w' ⟨rfl, rfl⟩)
      go_ret
      exact ⟨ret_bool (by rw [K.out.1, K.out.2]; rfl), rfl⟩

set_option maxRecDepth 100000 in
theorem bits_any (r : Int) (w : World) : Calls Tryd.prog 45 #[.int .i32 r] w fun e w' => e = .returned (.bool (hexR r)) ∧ w' = w := by
  have D := fun W => digit_any r W
  have E : Hid (hexR r = (digR r || (decide (97 ≤ r) && decide (r ≤ 102)))) := rfl
  generalize digR r = d at D E
  generalize hexR r = q at E
  cases d
  · by_cases h0 : 97 ≤ r
    · by_cases h1 : r ≤ 102
      · have K : Hid (q = true) := by rw [Hid, E.out]; simp [h0, h1]
        go_enter Tryd.func45, Tryd.ntmps45
        go_wp2_with (go_at_call 21; refine (D _).mono ?_; rintro e w' ⟨rfl, rfl⟩)
        go_ret
        exact ⟨ret_bool K.out.symm, rfl⟩
      · have K : Hid (q = decide (r ≤ 102)) := by rw [Hid, E.out]; simp [h1]
        go_enter Tryd.func45, Tryd.ntmps45
        go_wp2_with (go_at_call 21; refine (D _).mono ?_; rintro e w' ⟨rfl, rfl⟩)
        go_ret
        exact ⟨ret_bool K.out.symm, rfl⟩
    · have K : Hid (q = false) := by rw [Hid, E.out]; simp [h0]
      go_enter Tryd.func45, Tryd.ntmps45
      go_wp2_with (go_at_call 21; refine (D _).mono ?_; rintro e w' ⟨rfl, rfl⟩)
      go_ret
      exact ⟨ret_bool K.out.symm, rfl⟩
  · have K : Hid (q = true) := by rw [Hid, E.out]; simp
    go_enter Tryd.func45, Tryd.ntmps45
    go_wp2_with (go_at_call 21; refine (D _).mono ?_; rintro e w' ⟨rfl, rfl⟩)
    go_ret
    exact ⟨ret_bool K.out.symm, rfl⟩

set_option maxRecDepth 100000 in
theorem row1_any (r : Int) (w : World) : Calls Tryd.prog 47 #[.int .i32 r] w fun e w' => e = .returned (.bool (!partR r)) ∧ w' = w := by
  have D := fun W => part_any r W
  generalize partR r = d at D
  go_enter Tryd.func47, Tryd.ntmps47
  go_wp2_with (go_at_call 23; refine (D _).mono ?_; rintro e w' ⟨rfl, rfl⟩)
  go_ret
  exact ⟨rfl, rfl⟩

end Go.Proofs.YtdankjkmgcclhaaDoor
