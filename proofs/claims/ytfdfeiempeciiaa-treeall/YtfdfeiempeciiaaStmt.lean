/- The contracts of the maker's stmt and row. -/
import Derived.Test.YtfdfeiempeciiaaStmtA
import Derived.Test.YtfdfeiempeciiaaStmtB
import Derived.Test.YtfdfeiempeciiaaStmtC
import Derived.Test.YtfdfeiempeciiaaStmtD
import Derived.Test.YtfdfeiempeciiaaStmtE
import Derived.Test.YtfdfeiempeciiaaStmtF
import Derived.Test.YtfdfeiempeciiaaStmtG
import Derived.Test.YtfdfeiempeciiaaRowM
namespace Go.Proofs.Ytfdfeiempeciiaa
open Go.ChangeShapes Go.WideShapes Go.ChangeAt Go.RowKit
set_option linter.unusedVariables false

/-- What stmt does at a depth. -/
def StmtOk (M : Nat) (v : Value) (N : List Int) (d : Int) (S : (St × Nat) × Nat) (W : World) : Prop :=
  Calls Try.prog 45 #[.pointer (some ⟨M, 0, none⟩), .int .i64 d] W fun e w' => ∃ r, e = .returned r ∧ StOut W w' r S.1.1 ∧ Made W M v N S.2 S.1.2 w'

/-- The kinds that have no rows. -/
theorem stmt_flat (M : Nat) (v : Value) (N : List Int) (d : Nat) (hd : d ≤ 3) (row : Nat → Nat → (List St × Nat) × Nat) (W : World) (i l : Nat) (h : Mk W M v N i l) (hk : pk N 11 i ≠ 5 ∧ pk N 11 i ≠ 6 ∧ pk N 11 i ≠ 9) :
    StmtOk M v N d (stmtO N row (1 + pk N 11 i) (nx N i) l) W := by
  have hlt := pk_lt N 11 i (by omega)
  have h2 := pk_lt N 2 (nx N i) (by omega)
  have : pk N 11 i = 0 ∨ pk N 11 i = 1 ∨ pk N 11 i = 2 ∨ pk N 11 i = 3 ∨ pk N 11 i = 4 ∨ pk N 11 i = 7 ∨ pk N 11 i = 8 ∨ pk N 11 i = 10 := by omega
  rcases this with e | e | e | e | e | e | e | e
  · rw [e, stmtO, if_pos (by omega)]
    exact stmt_let0 W M v N i l d hd h e
  · rw [e, stmtO, if_pos (by omega)]
    exact stmt_let1 W M v N i l d hd h e
  · rw [e, stmtO, if_pos (by omega)]
    exact stmt_let2 W M v N i l d hd h e
  · rw [e, stmtO, if_neg (by omega), if_pos (by omega)]
    exact stmt_set W M v N i l d hd h e
  · rw [e, stmtO, if_neg (by omega), if_neg (by omega), if_pos (by omega)]
    exact stmt_print W M v N i l d hd h e
  · rw [e, stmtO, if_neg (by omega), if_neg (by omega), if_neg (by omega), if_neg (by omega), if_neg (by omega), if_pos (by omega)]
    by_cases e2 : pk N 2 (nx N i) = 0
    · rw [if_pos e2]
      exact stmt_brk70 W M v N i l d hd h e e2
    · rw [if_neg e2]
      exact stmt_brk71 W M v N i l d hd h e (by omega)
  · rw [e, stmtO, if_neg (by omega), if_neg (by omega), if_neg (by omega), if_neg (by omega), if_neg (by omega), if_pos (by omega)]
    by_cases e2 : pk N 2 (nx N i) = 0
    · rw [if_pos e2]
      exact stmt_brk80 W M v N i l d hd h e e2
    · rw [if_neg e2]
      exact stmt_brk81 W M v N i l d hd h e (by omega)
  · rw [e, stmtO, if_neg (by omega), if_neg (by omega), if_neg (by omega), if_neg (by omega), if_neg (by omega), if_neg (by omega), if_neg (by omega)]
    exact stmt_call W M v N i l d hd h e

theorem stmt_zero (M : Nat) (v : Value) (N : List Int) (row : Nat → Nat → (List St × Nat) × Nat) (W : World) (i l : Nat) (h : Mk W M v N i l) : StmtOk M v N ((0 : Nat) : Int) (stmtF N true row i l) W := by
  by_cases hk : pk N 11 i = 5 ∨ pk N 11 i = 6 ∨ pk N 11 i = 9
  · rw [stmtF, if_pos ⟨rfl, hk⟩, stmtO, if_neg (by omega), if_neg (by omega), if_pos rfl]
    rcases hk with e | e | e
    · exact stmt_print5 W M v N i l 0 (by omega) h e
    · exact stmt_print6 W M v N i l 0 (by omega) h e
    · exact stmt_print9 W M v N i l 0 (by omega) h e
  · rw [stmtF, if_neg (fun hh => hk hh.2)]
    exact stmt_flat M v N 0 (by omega) row W i l h (by omega)

theorem stmt_succ (M : Nat) (v : Value) (N : List Int) (d : Nat) (hd : d + 1 ≤ 3) (row : Nat → Nat → (List St × Nat) × Nat)
    (D : ∀ W i l, Mk W M v N i l → Calls Try.prog 25 #[.pointer (some ⟨M, 0, none⟩), .int .i64 d] W fun e w' => ∃ r, e = .returned r ∧ RowOut W w' r (row i l).1.1 ∧ Made W M v N (row i l).2 (row i l).1.2 w')
    (W : World) (i l : Nat) (h : Mk W M v N i l) : StmtOk M v N ((d + 1 : Nat) : Int) (stmtF N false row i l) W := by
  have hlt := pk_lt N 11 i (by omega)
  rw [stmtF, if_neg (by simp)]
  by_cases hk : pk N 11 i = 5 ∨ pk N 11 i = 6 ∨ pk N 11 i = 9
  · rcases hk with e | e | e
    · have h2 := pk_lt N 2 (row (exprM N 2 (nx N i)).2 l).1.2 (by omega)
      rw [e, stmtO, if_neg (by omega), if_neg (by omega), if_neg (by omega), if_pos (by omega)]
      by_cases e2 : pk N 2 (row (exprM N 2 (nx N i)).2 l).1.2 = 0
      · rw [if_pos e2]
        exact stmt_if0 W M v N i l d (by omega) h e row D e2
      · rw [if_neg e2]
        exact stmt_if1 W M v N i l d (by omega) h e row D (by omega)
    · have h2 := pk_lt N 2 (nx N i) (by omega)
      rw [e, stmtO, if_neg (by omega), if_neg (by omega), if_neg (by omega), if_neg (by omega), if_pos (by omega)]
      by_cases e2 : pk N 2 (nx N i) = 0
      · rw [if_pos e2]
        exact stmt_loop0 W M v N i l d (by omega) h e row D e2
      · rw [if_neg e2]
        exact stmt_loop1 W M v N i l d (by omega) h e row D (by omega)
    · rw [e, stmtO, if_neg (by omega), if_neg (by omega), if_neg (by omega), if_neg (by omega), if_neg (by omega), if_neg (by omega), if_pos (by omega)]
      exact stmt_atom W M v N i l d (by omega) h e row D
  · exact stmt_flat M v N (d + 1) hd row W i l h (by omega)

theorem row_any (M : Nat) (v : Value) (N : List Int) (d : Nat) : d ≤ 3 → ∀ (w : World) (i l : Nat), Mk w M v N i l →
    Calls Try.prog 25 #[.pointer (some ⟨M, 0, none⟩), .int .i64 d] w fun e w' => ∃ r, e = .returned r ∧ RowOut w w' r (rowM N d i l).1.1 ∧ Made w M v N (rowM N d i l).2 (rowM N d i l).1.2 w' := by
  induction d with
  | zero => intro hd w i l h; exact row_step M v N 0 hd _ (fun W i l hW => stmt_zero M v N _ W i l hW) w i l h
  | succ d ih => intro hd w i l h; exact row_step M v N (d + 1) hd _ (fun W i l hW => stmt_succ M v N d hd _ (ih (by omega)) W i l hW) w i l h
end Go.Proofs.Ytfdfeiempeciiaa
