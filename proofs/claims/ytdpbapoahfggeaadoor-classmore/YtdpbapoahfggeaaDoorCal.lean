/- Layer 8 as plain mathematics: items, what each takes, which rows are expressions (from the left and from the right). No Go in it. -/
import Derived.Test.YtdpbapoahfggeaaDoorRows
import Derived.WalkKit
import Derived.ProofKit
import Derived.OpenShut
import Derived.WalkSpells
import Derived.WalkLawsBesides
import Derived.Below
import Derived.Deep.MidRow
import Derived.Deep.Slices
import Derived.Deep.Strs
import Derived.Lib.SmallJoins
namespace Go.Proofs.YtdpbapoahfggeaaDoor
open Go.ChangeShapes Go.WideShapes Go.ChangeAt Go.RowKit
set_option linter.unusedVariables false

/-- An item. -/
structure Itm where
  op : Int
  bin : Int
  n : Int

def Itm.blank : Itm := ⟨0, 0, 0⟩

def Itm.ok (x : Itm) : Prop := -9223372036854775808 ≤ x.op ∧ x.op ≤ 9223372036854775807 ∧ -9223372036854775808 ≤ x.bin ∧ x.bin ≤ 9223372036854775807 ∧ 0 ≤ x.n ∧ x.n ≤ 18446744073709551615

/-- How many values an item takes. -/
def tk (op : Int) : Nat := if op == 4 then 1 else if op == 5 then 1 else if op == 6 then 1 else if op == 7 then 1 else if op == 8 then 2 else if op == 9 then 2 else if op == 10 then 2 else 0

theorem tk_le (op : Int) : tk op ≤ 2 := by unfold tk; split <;> (try omega); split <;> (try omega); split <;> (try omega); split <;> (try omega); split <;> (try omega); split <;> (try omega); split <;> omega

/-- Which Bin an item of two can have. -/
def canJ (op bin : Int) : Bool :=
  if op == 9 then decide (0 ≤ bin) && (decide (bin ≤ 8) && bin != 4)
  else if op == 10 then bin == 5 || bin == 6
  else decide (0 ≤ bin) && decide (bin ≤ 8)

/-- Can it be? -/
def can (s : Int) (x : Itm) : Bool :=
  if x.op == 1 then x.bin == 0
  else if x.op == 2 then x.bin == 0 && (decide (0 < s) && decide (x.n < s))
  else if x.op == 3 then x.bin == 0 && decide (x.n < 16)
  else if tk x.op == 1 then x.bin == 0 && x.n == 0
  else if tk x.op == 2 then x.n == 0 && canJ x.op x.bin
  else false

/-- From the left: how many values are there, behind a row of items; none: it cannot be. -/
def hgt (s : Int) : List Itm → Nat → Option Nat
  | [], h => some h
  | x :: l, h => if can s x = true ∧ tk x.op ≤ h then hgt s l (h - tk x.op + 1) else none

/-- Are items an expression? -/
def goodB (s : Int) (l : List Itm) : Bool := decide (l.length ≤ 64) && hgt s l 0 == some 1

/-- From the right (the row turned round): how many values are still wanted. -/
def wnt (s : Int) : List Itm → Nat → Option Nat
  | [], k => some k
  | x :: l, k => if can s x = true ∧ k ≠ 0 then wnt s l (k - 1 + tk x.op) else none

theorem hgt_app (s : Int) (l m : List Itm) (h : Nat) : hgt s (l ++ m) h = (hgt s l h).bind (hgt s m) := by
  induction l generalizing h with
  | nil => rfl
  | cons x l ih =>
    show (if _ then hgt s (l ++ m) _ else none) = (if _ then hgt s l _ else none : Option Nat).bind _
    split
    · exact ih _
    · rfl

theorem hgt_snoc (s : Int) (l : List Itm) (x : Itm) (h k : Nat) : hgt s (l ++ [x]) h = some k ↔ ∃ j, hgt s l h = some j ∧ can s x = true ∧ tk x.op ≤ j ∧ k = j - tk x.op + 1 := by
  rw [hgt_app]
  cases e : hgt s l h with
  | none => simp
  | some j =>
    show hgt s [x] j = some k ↔ _
    unfold hgt
    split
    · rename_i c
      constructor
      · intro q
        exact ⟨j, rfl, c.1, c.2, by simpa [hgt] using q.symm⟩
      · rintro ⟨j', hj, _, _, rfl⟩
        cases hj
        rfl
    · rename_i c
      constructor
      · intro q; cases q
      · rintro ⟨j', hj, c1, c2, _⟩
        cases hj
        exact absurd ⟨c1, c2⟩ c

theorem rev_ind {α : Type} {P : List α → Prop} (h0 : P []) (h1 : ∀ l x, P l → P (l ++ [x])) (l : List α) : P l := by
  have : ∀ m : List α, P m.reverse := by
    intro m
    induction m with
    | nil => exact h0
    | cons x m ih => rw [List.reverse_cons]; exact h1 _ _ ih
  have h := this l.reverse
  rwa [List.reverse_reverse] at h

theorem hgt_wnt (s : Int) (l : List Itm) : ∀ k, hgt s l 0 = some k ↔ wnt s l.reverse k = some 0 := by
  refine rev_ind (P := fun l => ∀ k, hgt s l 0 = some k ↔ wnt s l.reverse k = some 0) ?_ ?_ l
  · intro k
    simp [hgt, wnt]
    exact eq_comm
  · intro l x ih k
    rw [hgt_snoc, List.reverse_append]
    show _ ↔ wnt s (x :: l.reverse) k = some 0
    unfold wnt
    split
    · rename_i c
      rw [← ih]
      constructor
      · rintro ⟨j, hj, _, h1, rfl⟩
        rw [hj]; congr 1; omega
      · intro h
        exact ⟨_, h, c.1, by omega, by omega⟩
    · rename_i c
      constructor
      · rintro ⟨j, hj, c1, h1, rfl⟩
        exact absurd ⟨c1, by omega⟩ c
      · intro h; cases h

/-- The same by the document: from the right. -/
theorem good_right (s : Int) (l : List Itm) : goodB s l = (wnt s l.reverse 1 == some 0 && decide (l.length ≤ 64)) := by
  unfold goodB
  rw [Bool.and_comm]
  congr 1
  rw [Bool.eq_iff_iff, beq_iff_eq, beq_iff_eq]
  exact hgt_wnt s l 1

end Go.Proofs.YtdpbapoahfggeaaDoor
