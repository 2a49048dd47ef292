/- Layer 8 as plain mathematics: items, what each takes, which rows are expressions (from the left and from the right), and their values on a stack. No Go in it. -/
import Derived.Test.YtefcpidegnddiaaRefReal
namespace Go.Proofs.Ytefcpidegnddiaa
open Go.ChangeShapes Go.WideShapes Go.ChangeAt Go.RowKit
set_option linter.unusedVariables false

/-- An item. -/
structure Itm where
  op : Int
  bin : Int
  n : Int

def Itm.blank : Itm := ⟨0, 0, 0⟩

def Itm.ok (x : Itm) : Prop := -9223372036854775808 ≤ x.op ∧ x.op ≤ 9223372036854775807 ∧ -9223372036854775808 ≤ x.bin ∧ x.bin ≤ 9223372036854775807 ∧ 0 ≤ x.n ∧ x.n ≤ 18446744073709551615

/-- How many values an item takes. -/
def tk (op : Int) : Nat := if op == 4 then 1 else if op == 5 then 1 else if op == 6 then 1 else if op == 7 then 1 else if op == 8 then 2 else if op == 9 then 2 else if op == 10 then 2 else 0

theorem tk_le (op : Int) : tk op ≤ 2 := by unfold tk; split <;> (try omega); split <;> (try omega); split <;> (try omega); split <;> (try omega); split <;> (try omega); split <;> (try omega); split <;> omega

/-- Which Bin an item of two can have. -/
def canJ (op bin : Int) : Bool :=
  if op == 9 then decide (0 ≤ bin) && (decide (bin ≤ 8) && bin != 4)
  else if op == 10 then bin == 5 || bin == 6
  else decide (0 ≤ bin) && decide (bin ≤ 8)

/-- Can it be? -/
def can (s : Int) (x : Itm) : Bool :=
  if x.op == 1 then x.bin == 0
  else if x.op == 2 then x.bin == 0 && (decide (0 < s) && decide (x.n < s))
  else if x.op == 3 then x.bin == 0 && decide (x.n < 16)
  else if tk x.op == 1 then x.bin == 0 && x.n == 0
  else if tk x.op == 2 then x.n == 0 && canJ x.op x.bin
  else false

/-- From the left: how many values are there, behind a row of items; none: it cannot be. -/
def hgt (s : Int) : List Itm → Nat → Option Nat
  | [], h => some h
  | x :: l, h => if can s x = true ∧ tk x.op ≤ h then hgt s l (h - tk x.op + 1) else none

/-- Are items an expression? -/
def goodB (s : Int) (l : List Itm) : Bool := decide (l.length ≤ 64) && hgt s l 0 == some 1

/-- From the right (the row turned round): how many values are still wanted. -/
def wnt (s : Int) : List Itm → Nat → Option Nat
  | [], k => some k
  | x :: l, k => if can s x = true ∧ k ≠ 0 then wnt s l (k - 1 + tk x.op) else none

theorem hgt_app (s : Int) (l m : List Itm) (h : Nat) : hgt s (l ++ m) h = (hgt s l h).bind (hgt s m) := by
  induction l generalizing h with
  | nil => rfl
  | cons x l ih =>
    show (if _ then hgt s (l ++ m) _ else none) = (if _ then hgt s l _ else none : Option Nat).bind _
    split
    · exact ih _
    · rfl

theorem hgt_snoc (s : Int) (l : List Itm) (x : Itm) (h k : Nat) : hgt s (l ++ [x]) h = some k ↔ ∃ j, hgt s l h = some j ∧ can s x = true ∧ tk x.op ≤ j ∧ k = j - tk x.op + 1 := by
  rw [hgt_app]
  cases e : hgt s l h with
  | none => simp
  | some j =>
    show hgt s [x] j = some k ↔ _
    unfold hgt
    split
    · rename_i c
      constructor
      · intro q
        exact ⟨j, rfl, c.1, c.2, by simpa [hgt] using q.symm⟩
      · rintro ⟨j', hj, _, _, rfl⟩
        cases hj
        rfl
    · rename_i c
      constructor
      · intro q; cases q
      · rintro ⟨j', hj, c1, c2, _⟩
        cases hj
        exact absurd ⟨c1, c2⟩ c

theorem rev_ind {α : Type} {P : List α → Prop} (h0 : P []) (h1 : ∀ l x, P l → P (l ++ [x])) (l : List α) : P l := by
  have : ∀ m : List α, P m.reverse := by
    intro m
    induction m with
    | nil => exact h0
    | cons x m ih => rw [List.reverse_cons]; exact h1 _ _ ih
  have h := this l.reverse
  rwa [List.reverse_reverse] at h

theorem hgt_wnt (s : Int) (l : List Itm) : ∀ k, hgt s l 0 = some k ↔ wnt s l.reverse k = some 0 := by
  refine rev_ind (P := fun l => ∀ k, hgt s l 0 = some k ↔ wnt s l.reverse k = some 0) ?_ ?_ l
  · intro k
    simp [hgt, wnt]
    exact eq_comm
  · intro l x ih k
    rw [hgt_snoc, List.reverse_append]
    show _ ↔ wnt s (x :: l.reverse) k = some 0
    unfold wnt
    split
    · rename_i c
      rw [← ih]
      constructor
      · rintro ⟨j, hj, _, h1, rfl⟩
        rw [hj]; congr 1; omega
      · intro h
        exact ⟨_, h, c.1, by omega, by omega⟩
    · rename_i c
      constructor
      · rintro ⟨j, hj, c1, h1, rfl⟩
        exact absurd ⟨c1, by omega⟩ c
      · intro h; cases h

/-- The same by the document: from the right. -/
theorem good_right (s : Int) (l : List Itm) : goodB s l = (wnt s l.reverse 1 == some 0 && decide (l.length ≤ 64)) := by
  unfold goodB
  rw [Bool.and_comm]
  congr 1
  rw [Bool.eq_iff_iff, beq_iff_eq, beq_iff_eq]
  exact hgt_wnt s l 1

/-- The value of an item that takes none. -/
def fetchV (sl ins : List Int) (x : Itm) : Int :=
  if x.op == 2 then sl.getD x.n.toNat 0
  else if x.op == 3 then (if x.n < ins.length then IntKind.u64.wrap (ins.getD x.n.toNat 0) else 0)
  else x.n

/-- The value of an item that takes one. -/
def turnV (op v : Int) : Int :=
  if op == 5 then (if nanB v.toNat then 9221120237041090560 else flipI v)
  else if op == 6 then (floatOfInt .f64 (wrap64 v) : Nat)
  else if op == 7 then IntKind.u64.wrap (truncZ v.toNat)
  else IntKind.u64.wrap (-v)

/-- Of an item that takes two: the value, and is it one? -/
def joinN (x : Itm) (a b : Int) : Int := if x.op == 9 then realI x.bin a b else IntKind.u64.wrap (intI x.bin (wrap64 a) (wrap64 b))
def joinB (x : Itm) (b : Int) : Bool := if x.op == 9 then true else intB x.bin (wrap64 b)

/-- What comes for the values that an item takes, the lower one first. -/
def reckN (sl ins : List Int) (x : Itm) : List Int → Int
  | [] => fetchV sl ins x
  | [a] => turnV x.op a
  | a :: b :: _ => joinN x a b
def reckB (x : Itm) : List Int → Bool
  | [] => true
  | [_] => true
  | _ :: b :: _ => joinB x b

/-- The stack behind an item (the lowest value first). -/
def stN (sl ins : List Int) (x : Itm) (st : List Int) : List Int := st.take (st.length - tk x.op) ++ [reckN sl ins x (st.drop (st.length - tk x.op))]
def stB (x : Itm) (st : List Int) : Bool := reckB x (st.drop (st.length - tk x.op))

/-- The stack behind a row of items; none: by nought. -/
def runE (sl ins : List Int) : List Itm → List Int → Option (List Int)
  | [], st => some st
  | x :: l, st => if stB x st then runE sl ins l (stN sl ins x st) else none

/-- Eval: the value, and the trap. -/
def evN (sl ins : List Int) (l : List Itm) : Int := if goodB sl.length l then ((runE sl ins l []).getD []).headD 0 else 0
def evT (sl ins : List Int) (l : List Itm) : Int := if goodB sl.length l then (if (runE sl ins l []).isSome then 0 else 1) else 0

theorem runE_app (sl ins : List Int) (l m : List Itm) (st : List Int) : runE sl ins (l ++ m) st = (runE sl ins l st).bind (runE sl ins m) := by
  induction l generalizing st with
  | nil => rfl
  | cons x l ih =>
    show (if _ then runE sl ins (l ++ m) _ else none) = (if _ then runE sl ins l _ else none : Option (List Int)).bind _
    split
    · exact ih _
    · rfl

theorem stN_len (sl ins : List Int) (x : Itm) (st : List Int) (h : tk x.op ≤ st.length) : (stN sl ins x st).length = st.length - tk x.op + 1 := by
  unfold stN
  rw [List.length_append, List.length_take]
  simp only [List.length_cons, List.length_nil]
  omega

theorem runE_len (sl ins : List Int) (s : Int) (l : List Itm) (st st' : List Int) (h : Nat) (hh : hgt s l st.length = some h) (hr : runE sl ins l st = some st') : st'.length = h := by
  induction l generalizing st with
  | nil =>
    simp only [hgt, runE, Option.some.injEq] at hh hr
    rw [← hr]; exact hh
  | cons x l ih =>
    unfold hgt at hh
    unfold runE at hr
    split at hh
    · rename_i c
      split at hr
      · refine ih _ ?_ hr
        rw [stN_len _ _ _ _ c.2]; exact hh
      · cases hr
    · cases hh

/-- Values are rows of 64 bits. -/
def U (v : Int) : Prop := 0 ≤ v ∧ v ≤ 18446744073709551615

theorem u_wrap (v : Int) : U (IntKind.u64.wrap v) := by rw [IntKind.wrap_u64]; unfold U; omega

theorem rung_in (n : Int) (h0 : -9223372036854775808 ≤ n) (h1 : n ≤ 9223372036854775807) : floatOfInt .f64 n < 18446744073709551616 := by
  have := floatOfInt_wf .f64 n
  simpa [Lit.wf] using this
end Go.Proofs.Ytefcpidegnddiaa
