/- Bm, Cal, Cm -/
import Derived.Test.YtdpbapoahfggeaaDoorRows
import Derived.WalkKit
import Derived.ProofKit
import Derived.OpenShut
import Derived.WalkSpells
import Derived.WalkLawsBesides
import Derived.Below
import Derived.Deep.MidRow
import Derived.Deep.Slices
import Derived.Deep.Strs
import Derived.Lib.SmallJoins
/- Sets as numbers: their bits, one by one. Plain mathematics. -/
namespace Go.Proofs.YtdpbapoahfggeaaDoor
set_option linter.unusedVariables false

/-- The bits of a set from a place on, so many places. -/
def bitsF (s : Nat) : Nat → Nat → List Nat
  | _, 0 => []
  | i, n + 1 => if s.testBit i then i :: bitsF s (i + 1) n else bitsF s (i + 1) n
/-- The numbers of the bits that are 1, rising. -/
def bitsL (s : Nat) : List Nat := bitsF s 0 64

theorem bitsF_yes {s i : Nat} (n : Nat) (h : s.testBit i = true) : bitsF s i (n + 1) = i :: bitsF s (i + 1) n := by simp [bitsF, h]
theorem bitsF_no {s i : Nat} (n : Nat) (h : s.testBit i = false) : bitsF s i (n + 1) = bitsF s (i + 1) n := by simp [bitsF, h]

theorem bitsF_same {s t : Nat} : ∀ (n i : Nat), (∀ j, i ≤ j → s.testBit j = t.testBit j) → bitsF s i n = bitsF t i n
  | 0, _, _ => rfl
  | n + 1, i, h => by
    have h1 := h i (Nat.le_refl _)
    have h2 := bitsF_same n (i + 1) (fun j hj => h j (by omega))
    cases hs : s.testBit i
    · rw [bitsF_no n hs, bitsF_no n (h1 ▸ hs), h2]
    · rw [bitsF_yes n hs, bitsF_yes n (h1 ▸ hs), h2]

theorem bitsF_skip {s : Nat} : ∀ (k i n : Nat), (∀ j, i ≤ j → j < i + k → s.testBit j = false) → bitsF s i (k + n) = bitsF s (i + k) n
  | 0, i, n, _ => by simp
  | k + 1, i, n, h => by
    rw [show k + 1 + n = (k + n) + 1 by omega, bitsF_no _ (h i (Nat.le_refl _) (by omega)), bitsF_skip k (i + 1) n (fun j h1 h2 => h j (by omega) (by omega)), show i + 1 + k = i + (k + 1) by omega]

theorem mem_bitsF {s k : Nat} : ∀ (n i : Nat), k ∈ bitsF s i n ↔ i ≤ k ∧ k < i + n ∧ s.testBit k = true
  | 0, i => by simp [bitsF]; omega
  | n + 1, i => by
    cases hs : s.testBit i
    · rw [bitsF_no n hs, mem_bitsF n (i + 1)]
      constructor
      · rintro ⟨h1, h2, h3⟩; exact ⟨by omega, by omega, h3⟩
      · rintro ⟨h1, h2, h3⟩
        have : k ≠ i := fun e => by rw [e, hs] at h3; cases h3
        exact ⟨by omega, by omega, h3⟩
    · rw [bitsF_yes n hs, List.mem_cons, mem_bitsF n (i + 1)]
      constructor
      · rintro (rfl | ⟨h1, h2, h3⟩)
        · exact ⟨by omega, by omega, hs⟩
        · exact ⟨by omega, by omega, h3⟩
      · rintro ⟨h1, h2, h3⟩
        by_cases e : k = i
        · exact .inl e
        · exact .inr ⟨by omega, by omega, h3⟩

theorem mem_bits {s k : Nat} : k ∈ bitsL s ↔ k < 64 ∧ s.testBit k = true := by
  unfold bitsL
  rw [mem_bitsF]
  simp

theorem bitsF_len (s : Nat) : ∀ (n i : Nat), (bitsF s i n).length ≤ n
  | 0, _ => by simp [bitsF]
  | n + 1, i => by
    have := bitsF_len s n (i + 1)
    cases hs : s.testBit i
    · rw [bitsF_no n hs]; omega
    · rw [bitsF_yes n hs]; simp; omega
theorem bits_len (s : Nat) : (bitsL s).length ≤ 64 := bitsF_len s 64 0
theorem bits_zero : bitsL 0 = [] := by
  cases h : bitsL 0 with
  | nil => rfl
  | cons a l =>
    have : a ∈ bitsL 0 := by rw [h]; simp
    rw [mem_bits] at this
    simp at this

/-- A number's lowest bit. -/
theorem low_of : ∀ (x : Nat), x ≠ 0 → ∃ k m, x = 2 ^ (k + 1) * m + 2 ^ k := fun x => by
  induction x using Nat.strongRecOn with
  | _ x ih =>
    intro h0
    by_cases h : x % 2 = 1
    · exact ⟨0, x / 2, by simp; omega⟩
    · obtain ⟨k, m, e⟩ := ih (x / 2) (by omega) (by omega)
      refine ⟨k + 1, m, ?_⟩
      have e1 : 2 ^ (k + 1 + 1) * m = 2 * (2 ^ (k + 1) * m) := by rw [Nat.pow_succ 2 (k + 1), Nat.mul_right_comm, Nat.mul_comm]
      have e2 : 2 ^ (k + 1) = 2 * 2 ^ k := by rw [Nat.pow_succ 2 k, Nat.mul_comm]
      rw [e1]
      generalize 2 ^ (k + 1) * m = y at *
      omega

theorem low_bit {x k m : Nat} (e : x = 2 ^ (k + 1) * m + 2 ^ k) (i : Nat) : x.testBit i = if i < k then false else if i = k then true else m.testBit (i - (k + 1)) := by
  have hp : 2 ^ k < 2 ^ (k + 1) := Nat.pow_lt_pow_of_lt (by omega) (by omega)
  rw [e, Nat.testBit_two_pow_mul_add m hp i]
  by_cases h1 : i < k
  · rw [if_pos (by omega), if_pos h1, Nat.testBit_two_pow]; simp; omega
  · by_cases h2 : i = k
    · subst h2
      rw [if_pos (by omega), if_neg h1, if_pos rfl, Nat.testBit_two_pow]; simp
    · rw [if_neg (by omega), if_neg h1, if_neg h2]
theorem low_pred {x k m : Nat} (e : x = 2 ^ (k + 1) * m + 2 ^ k) (i : Nat) : (x - 1).testBit i = if i < k then true else if i = k then false else m.testBit (i - (k + 1)) := by
  have hp : 2 ^ k < 2 ^ (k + 1) := Nat.pow_lt_pow_of_lt (by omega) (by omega)
  have h0 : 0 < 2 ^ k := Nat.two_pow_pos k
  rw [e, show 2 ^ (k + 1) * m + 2 ^ k - 1 = 2 ^ (k + 1) * m + (2 ^ k - 1) by omega, Nat.testBit_two_pow_mul_add m (by omega) i]
  by_cases h1 : i < k
  · rw [if_pos (by omega), if_pos h1, Nat.testBit_two_pow_sub_one]; simp [h1]
  · by_cases h2 : i = k
    · subst h2
      rw [if_pos (by omega), if_neg h1, if_pos rfl, Nat.testBit_two_pow_sub_one]; simp
    · rw [if_neg (by omega), if_neg h1, if_neg h2]

theorem low_and {x k m : Nat} (e : x = 2 ^ (k + 1) * m + 2 ^ k) (hx : x < 2 ^ 64) : x &&& (2 ^ 64 - x) = 2 ^ k := by
  have h0 : 0 < 2 ^ k := Nat.two_pow_pos k
  have h1 : 0 < x := by omega
  apply Nat.eq_of_testBit_eq
  intro i
  have hy := Nat.testBit_two_pow_sub_succ (x := x - 1) (n := 64) (by omega) i
  rw [show x - 1 + 1 = x by omega] at hy
  rw [Nat.testBit_and, hy, low_bit e i, low_pred e i, Nat.testBit_two_pow]
  have hk : k < 64 := by
    have : 2 ^ k < 2 ^ 64 := by
      have : 2 ^ k ≤ x := by rw [e]; exact Nat.le_add_left _ _
      omega
    exact (Nat.pow_lt_pow_iff_right (by omega)).1 this
  by_cases a : i < k
  · rw [if_pos a]; simp; omega
  · by_cases b : i = k
    · subst b; simp [hk]
    · rw [if_neg a, if_neg b]
      have : ¬ k = i := fun q => b q.symm
      simp [this]
      by_cases c : i < 64
      · simp [b]
        intro p _ _
        exact p
      · simp [c]

theorem low_lt {x k m : Nat} (e : x = 2 ^ (k + 1) * m + 2 ^ k) (hx : x < 2 ^ 64) : k < 64 := by
  have : 2 ^ k < 2 ^ 64 := by
    have : 2 ^ k ≤ x := by rw [e]; exact Nat.le_add_left _ _
    omega
  exact (Nat.pow_lt_pow_iff_right (by omega)).1 this

/-- The bits: the lowest one, and then those without it. -/
theorem bits_cons {x k m : Nat} (e : x = 2 ^ (k + 1) * m + 2 ^ k) (hx : x < 2 ^ 64) : bitsL x = k :: bitsL (x &&& (x - 1)) := by
  have hk := low_lt e hx
  have h1 : bitsL x = bitsF x k (63 - k + 1) := by
    have := bitsF_skip (s := x) k 0 (63 - k + 1) (fun j _ hj => by rw [low_bit e, if_pos (by omega)])
    rw [show k + (63 - k + 1) = 64 by omega, Nat.zero_add] at this
    exact this
  have h2 : bitsL (x &&& (x - 1)) = bitsF (x &&& (x - 1)) (k + 1) (63 - k) := by
    have := bitsF_skip (s := x &&& (x - 1)) (k + 1) 0 (63 - k) (fun j _ hj => by
      rw [Nat.testBit_and, low_bit e, low_pred e]
      by_cases a : j < k
      · simp [a]
      · have : j = k := by omega
        simp [this])
    rw [show k + 1 + (63 - k) = 64 by omega, Nat.zero_add] at this
    exact this
  rw [h1, bitsF_yes _ (by rw [low_bit e]; simp), h2]
  congr 1
  refine bitsF_same _ _ fun j hj => ?_
  rw [Nat.testBit_and, low_bit e, low_pred e, if_neg (by omega), if_neg (by omega), if_neg (by omega), if_neg (by omega)]
  cases m.testBit (j - (k + 1)) <;> rfl

/-- The table's places. -/
def deB : List Nat := [0, 1, 56, 2, 57, 49, 28, 3, 61, 58, 42, 50, 38, 29, 17, 4, 62, 47, 59, 36, 45, 43, 51, 22, 53, 39, 33, 30, 24, 18, 12, 5, 63, 55, 48, 27, 60, 41, 37, 16, 46, 35, 44, 21, 52, 32, 23, 11, 54, 26, 40, 15, 34, 20, 31, 10, 25, 14, 19, 9, 13, 8, 7, 6]
theorem deB_at : ∀ k, k < 64 → (2 ^ k * 285870213051353865 % 18446744073709551616) / 288230376151711744 < 64 ∧ deB.getD ((2 ^ k * 285870213051353865 % 18446744073709551616) / 288230376151711744) 0 = k := by decide
end Go.Proofs.YtdpbapoahfggeaaDoor
/- Layer 8 as plain mathematics: items, what each takes, which rows are expressions (from the left and from the right). No Go in it. -/
namespace Go.Proofs.YtdpbapoahfggeaaDoor
open Go.ChangeShapes Go.WideShapes Go.ChangeAt Go.RowKit
set_option linter.unusedVariables false

/-- An item. -/
structure Itm where
  op : Int
  bin : Int
  n : Int

def Itm.blank : Itm := ⟨0, 0, 0⟩

def Itm.ok (x : Itm) : Prop := -9223372036854775808 ≤ x.op ∧ x.op ≤ 9223372036854775807 ∧ -9223372036854775808 ≤ x.bin ∧ x.bin ≤ 9223372036854775807 ∧ 0 ≤ x.n ∧ x.n ≤ 18446744073709551615

/-- How many values an item takes. -/
def tk (op : Int) : Nat := if op == 4 then 1 else if op == 5 then 1 else if op == 6 then 1 else if op == 7 then 1 else if op == 8 then 2 else if op == 9 then 2 else if op == 10 then 2 else 0

theorem tk_le (op : Int) : tk op ≤ 2 := by unfold tk; split <;> (try omega); split <;> (try omega); split <;> (try omega); split <;> (try omega); split <;> (try omega); split <;> (try omega); split <;> omega

/-- Which Bin an item of two can have. -/
def canJ (op bin : Int) : Bool :=
  if op == 9 then decide (0 ≤ bin) && (decide (bin ≤ 8) && bin != 4)
  else if op == 10 then bin == 5 || bin == 6
  else decide (0 ≤ bin) && decide (bin ≤ 8)

/-- Can it be? -/
def can (s : Int) (x : Itm) : Bool :=
  if x.op == 1 then x.bin == 0
  else if x.op == 2 then x.bin == 0 && (decide (0 < s) && decide (x.n < s))
  else if x.op == 3 then x.bin == 0 && decide (x.n < 16)
  else if tk x.op == 1 then x.bin == 0 && x.n == 0
  else if tk x.op == 2 then x.n == 0 && canJ x.op x.bin
  else false

/-- From the left: how many values are there, behind a row of items; none: it cannot be. -/
def hgt (s : Int) : List Itm → Nat → Option Nat
  | [], h => some h
  | x :: l, h => if can s x = true ∧ tk x.op ≤ h then hgt s l (h - tk x.op + 1) else none

/-- Are items an expression? -/
def goodB (s : Int) (l : List Itm) : Bool := decide (l.length ≤ 64) && hgt s l 0 == some 1

/-- From the right (the row turned round): how many values are still wanted. -/
def wnt (s : Int) : List Itm → Nat → Option Nat
  | [], k => some k
  | x :: l, k => if can s x = true ∧ k ≠ 0 then wnt s l (k - 1 + tk x.op) else none

theorem hgt_app (s : Int) (l m : List Itm) (h : Nat) : hgt s (l ++ m) h = (hgt s l h).bind (hgt s m) := by
  induction l generalizing h with
  | nil => rfl
  | cons x l ih =>
    show (if _ then hgt s (l ++ m) _ else none) = (if _ then hgt s l _ else none : Option Nat).bind _
    split
    · exact ih _
    · rfl

theorem hgt_snoc (s : Int) (l : List Itm) (x : Itm) (h k : Nat) : hgt s (l ++ [x]) h = some k ↔ ∃ j, hgt s l h = some j ∧ can s x = true ∧ tk x.op ≤ j ∧ k = j - tk x.op + 1 := by
  rw [hgt_app]
  cases e : hgt s l h with
  | none => simp
  | some j =>
    show hgt s [x] j = some k ↔ _
    unfold hgt
    split
    · rename_i c
      constructor
      · intro q
        exact ⟨j, rfl, c.1, c.2, by simpa [hgt] using q.symm⟩
      · rintro ⟨j', hj, _, _, rfl⟩
        cases hj
        rfl
    · rename_i c
      constructor
      · intro q; cases q
      · rintro ⟨j', hj, c1, c2, _⟩
        cases hj
        exact absurd ⟨c1, c2⟩ c

theorem rev_ind {α : Type} {P : List α → Prop} (h0 : P []) (h1 : ∀ l x, P l → P (l ++ [x])) (l : List α) : P l := by
  have : ∀ m : List α, P m.reverse := by
    intro m
    induction m with
    | nil => exact h0
    | cons x m ih => rw [List.reverse_cons]; exact h1 _ _ ih
  have h := this l.reverse
  rwa [List.reverse_reverse] at h

theorem hgt_wnt (s : Int) (l : List Itm) : ∀ k, hgt s l 0 = some k ↔ wnt s l.reverse k = some 0 := by
  refine rev_ind (P := fun l => ∀ k, hgt s l 0 = some k ↔ wnt s l.reverse k = some 0) ?_ ?_ l
  · intro k
    simp [hgt, wnt]
    exact eq_comm
  · intro l x ih k
    rw [hgt_snoc, List.reverse_append]
    show _ ↔ wnt s (x :: l.reverse) k = some 0
    unfold wnt
    split
    · rename_i c
      rw [← ih]
      constructor
      · rintro ⟨j, hj, _, h1, rfl⟩
        rw [hj]; congr 1; omega
      · intro h
        exact ⟨_, h, c.1, by omega, by omega⟩
    · rename_i c
      constructor
      · rintro ⟨j, hj, c1, h1, rfl⟩
        exact absurd ⟨c1, by omega⟩ c
      · intro h; cases h

/-- The same by the document: from the right. -/
theorem good_right (s : Int) (l : List Itm) : goodB s l = (wnt s l.reverse 1 == some 0 && decide (l.length ≤ 64)) := by
  unfold goodB
  rw [Bool.and_comm]
  congr 1
  rw [Bool.eq_iff_iff, beq_iff_eq, beq_iff_eq]
  exact hgt_wnt s l 1

end Go.Proofs.YtdpbapoahfggeaaDoor
/- Which sites are of one class: who meets whom, through others too; groups as sets of bits; the numbers of classes. Plain mathematics. -/
namespace Go.Proofs.YtdpbapoahfggeaaDoor
set_option linter.unusedVariables false
set_option linter.unusedSimpArgs false

/-- Two sites of the first n ones that some set has both. -/
def MeetB (n : Nat) (L : List Nat) (a b : Nat) : Bool := decide (a < n) && decide (b < n) && L.any (fun x => x.testBit a && x.testBit b)
theorem meet_iff {n : Nat} {L : List Nat} {a b : Nat} : MeetB n L a b = true ↔ a < n ∧ b < n ∧ ∃ x ∈ L, x.testBit a = true ∧ x.testBit b = true := by
  unfold MeetB
  simp [and_assoc]
theorem meet_symm {n : Nat} {L : List Nat} {a b : Nat} (h : MeetB n L a b = true) : MeetB n L b a = true := by
  rw [meet_iff] at h ⊢
  obtain ⟨h1, h2, x, h3, h4, h5⟩ := h
  exact ⟨h2, h1, x, h3, h5, h4⟩

/-- Of one class: reached by steps from set to set. -/
def Jo (n : Nat) (L : List Nat) (a b : Nat) : Prop := ∀ P : Nat → Prop, P a → (∀ x y, P x → MeetB n L x y = true → P y) → P b
theorem Jo.refl (n : Nat) (L : List Nat) (a : Nat) : Jo n L a a := fun P h _ => h
theorem Jo.step {n : Nat} {L : List Nat} {a b c : Nat} (h : Jo n L a b) (k : MeetB n L b c = true) : Jo n L a c := fun P p st => st _ _ (h P p st) k
theorem Jo.trans {n : Nat} {L : List Nat} {a b c : Nat} (h : Jo n L a b) (k : Jo n L b c) : Jo n L a c := fun P p st => k P (h P p st) st
theorem Jo.one {n : Nat} {L : List Nat} {a b : Nat} (k : MeetB n L a b = true) : Jo n L a b := (Jo.refl n L a).step k
theorem Jo.symm {n : Nat} {L : List Nat} {a b : Nat} (h : Jo n L a b) : Jo n L b a :=
  h (fun x => Jo n L x a) (Jo.refl n L a) (fun x y hx hm => (Jo.one (meet_symm hm)).trans hx)
theorem Jo.lt {n : Nat} {L : List Nat} {a b : Nat} (h : Jo n L a b) : a = b ∨ a < n ∧ b < n := by
  refine h (fun x => a = x ∨ a < n ∧ x < n) (.inl rfl) (fun x y hx hm => .inr ?_)
  rw [meet_iff] at hm
  rcases hx with e | e
  · subst e; exact ⟨hm.1, hm.2.1⟩
  · exact ⟨e.1, hm.2.1⟩
theorem Jo.mono {n : Nat} {L L' : List Nat} (hL : ∀ x, x ∈ L → x ∈ L') {a b : Nat} (h : Jo n L a b) : Jo n L' a b :=
  h (fun x => Jo n L' a x) (Jo.refl n L' a) (fun x y hx hm => hx.step (by
    rw [meet_iff] at hm ⊢
    obtain ⟨h1, h2, z, h3, h4⟩ := hm
    exact ⟨h1, h2, z, hL z h3, h4⟩))
theorem jo_nil {n : Nat} {a b : Nat} : Jo n [] a b ↔ a = b := by
  constructor
  · intro h
    refine h (fun x => a = x) rfl (fun x y hx hm => ?_)
    rw [meet_iff] at hm
    obtain ⟨_, _, z, hz, _⟩ := hm
    cases hz
  · rintro rfl; exact Jo.refl _ _ _

/-- One set more. -/
theorem jo_more {n : Nat} {L : List Nat} {x : Nat} {i j : Nat} :
    Jo n (L ++ [x]) i j ↔ Jo n L i j ∨ (∃ a, a < n ∧ x.testBit a = true ∧ Jo n L a i) ∧ (∃ b, b < n ∧ x.testBit b = true ∧ Jo n L b j) := by
  constructor
  · intro h
    refine h (fun j => Jo n L i j ∨ (∃ a, a < n ∧ x.testBit a = true ∧ Jo n L a i) ∧ (∃ b, b < n ∧ x.testBit b = true ∧ Jo n L b j)) (.inl (Jo.refl _ _ _)) (fun y z hy hm => ?_)
    rw [meet_iff] at hm
    obtain ⟨h1, h2, u, hu, h3, h4⟩ := hm
    rcases List.mem_append.1 hu with hu | hu
    · have m : MeetB n L y z = true := meet_iff.2 ⟨h1, h2, u, hu, h3, h4⟩
      rcases hy with hy | ⟨hy, b, b1, b2, b3⟩
      · exact .inl (hy.step m)
      · exact .inr ⟨hy, b, b1, b2, b3.step m⟩
    · have : u = x := by simpa using hu
      subst this
      rcases hy with hy | ⟨hy, b, b1, b2, b3⟩
      · exact .inr ⟨⟨y, h1, h3, hy.symm⟩, z, h2, h4, Jo.refl _ _ _⟩
      · exact .inr ⟨hy, z, h2, h4, Jo.refl _ _ _⟩
  · have hL : ∀ y, y ∈ L → y ∈ L ++ [x] := fun y hy => List.mem_append_left _ hy
    rintro (h | ⟨⟨a, a1, a2, a3⟩, b, b1, b2, b3⟩)
    · exact h.mono hL
    · have m : MeetB n (L ++ [x]) a b = true := meet_iff.2 ⟨a1, b1, x, by simp, a2, b2⟩
      exact ((a3.mono hL).symm.step m).trans (b3.mono hL)

/-! ### Groups -/

/-- All that a row's groups have. -/
def orG (g : List Nat) (l : List Nat) : Nat := l.foldl (fun a i => a ||| g.getD i 0) 0
theorem or_fold (g : List Nat) : ∀ (l : List Nat) (z j : Nat), (l.foldl (fun a i => a ||| g.getD i 0) z).testBit j = true ↔ z.testBit j = true ∨ ∃ i ∈ l, (g.getD i 0).testBit j = true
  | [], z, j => by simp
  | i :: l, z, j => by
    rw [List.foldl_cons, or_fold g l, Nat.testBit_or, Bool.or_eq_true]
    constructor
    · rintro ((h | h) | ⟨k, hk, h⟩)
      · exact .inl h
      · exact .inr ⟨i, by simp, h⟩
      · exact .inr ⟨k, by simp [hk], h⟩
    · rintro (h | ⟨k, hk, h⟩)
      · exact .inl (.inl h)
      · rcases List.mem_cons.1 hk with e | e
        · subst e; exact .inl (.inr h)
        · exact .inr ⟨k, e, h⟩
theorem orG_bit {g l : List Nat} {j : Nat} : (orG g l).testBit j = true ↔ ∃ i ∈ l, (g.getD i 0).testBit j = true := by
  unfold orG
  rw [or_fold]
  simp
def setG (g : List Nat) (v : Nat) (l : List Nat) : List Nat := l.foldl (fun h i => h.set i v) g
theorem setG_len (v : Nat) : ∀ (l g : List Nat), (setG g v l).length = g.length
  | [], g => rfl
  | i :: l, g => by
    have := setG_len v l (g.set i v)
    rw [List.length_set] at this
    exact this
theorem getD_set (g : List Nat) (i v k : Nat) : (g.set i v).getD k 0 = if i = k ∧ k < g.length then v else g.getD k 0 := by
  simp only [List.getD, List.getElem?_set]
  by_cases h : i = k
  · subst h
    by_cases h2 : i < g.length
    · simp [h2]
    · simp [h2]
  · simp [h]
theorem setG_at (v : Nat) : ∀ (l g : List Nat) (k : Nat), (setG g v l).getD k 0 = if k ∈ l ∧ k < g.length then v else g.getD k 0
  | [], g, k => by simp [setG]
  | i :: l, g, k => by
    have h := setG_at v l (g.set i v) k
    rw [show setG (g.set i v) v l = setG g v (i :: l) from rfl, List.length_set, getD_set] at h
    rw [h]
    by_cases h1 : k < g.length
    · by_cases h2 : k ∈ l
      · simp [h1, h2]
      · by_cases h3 : i = k
        · subst h3; simp [h1]
        · have : ¬ k = i := fun e => h3 e.symm
          simp [h2, h3, this]
    · simp [h1]
/-- A set's sites, and what they are one with, are one. -/
def joinL (g : List Nat) (x : Nat) : List Nat := setG g (orG g (bitsL x)) (bitsL (orG g (bitsL x)))

def GI (n : Nat) (L : List Nat) (g : List Nat) : Prop := g.length = 64 ∧ ∀ i, i < 64 → ∀ j, (g.getD i 0).testBit j = true ↔ j < 64 ∧ Jo n L i j
def ones0 : List Nat := (List.range 64).map (fun i => 2 ^ i)
theorem ones0_at {i : Nat} (h : i < 64) : ones0.getD i 0 = 2 ^ i := by
  unfold ones0
  simp [List.getD, h]
theorem gi_start (n : Nat) : GI n [] ones0 := by
  refine ⟨by simp [ones0], fun i hi j => ?_⟩
  rw [ones0_at hi, Nat.testBit_two_pow, jo_nil, decide_eq_true_eq]
  constructor
  · rintro rfl; exact ⟨hi, rfl⟩
  · exact fun h => h.2
theorem bit_lt {x j : Nat} (hx : x < 2 ^ 64) (h : x.testBit j = true) : j < 64 := by
  by_cases q : j < 64
  · exact q
  · have : x < 2 ^ j := Nat.lt_of_lt_of_le hx (Nat.pow_le_pow_right (by omega) (by omega))
    rw [Nat.testBit_lt_two_pow this] at h
    cases h
theorem lt64_of {x : Nat} (h : ∀ j, x.testBit j = true → j < 64) : x < 2 ^ 64 := by
  apply Nat.lt_pow_two_of_testBit
  intro i hi
  cases q : x.testBit i
  · rfl
  · have := h i q; omega
theorem GI.lt {n : Nat} {L g : List Nat} (h : GI n L g) (i : Nat) : g.getD i 0 < 2 ^ 64 := by
  by_cases hi : i < 64
  · exact lt64_of (fun j hj => ((h.2 i hi j).1 hj).1)
  · have : g.getD i 0 = 0 := by simp [List.getD, List.getElem?_eq_none (show g.length ≤ i by rw [h.1]; omega)]
    rw [this]; omega
theorem or_lt {n : Nat} {L g : List Nat} (h : GI n L g) (l : List Nat) : orG g l < 2 ^ 64 := by
  refine lt64_of (fun j hj => ?_)
  obtain ⟨i, _, hb⟩ := orG_bit.1 hj
  exact bit_lt (h.lt i) hb
theorem join_inv {n : Nat} {L g : List Nat} (h : GI n L g) {x y : Nat} (hx : x < 2 ^ 64) (hy : ∀ j, y.testBit j = (decide (j < n) && x.testBit j)) : GI n (L ++ [x]) (joinL g y) := by
  have hall : ∀ j, (orG g (bitsL y)).testBit j = true ↔ j < 64 ∧ ∃ a, a < n ∧ x.testBit a = true ∧ Jo n L a j := fun j => by
    rw [orG_bit]
    constructor
    · rintro ⟨a, ha, hb⟩
      obtain ⟨a1, a2⟩ := mem_bits.1 ha
      rw [hy] at a2
      simp at a2
      obtain ⟨b1, b2⟩ := (h.2 a a1 j).1 hb
      exact ⟨b1, a, a2.1, a2.2, b2⟩
    · rintro ⟨hj, a, a1, a2, a3⟩
      have a4 := bit_lt hx a2
      exact ⟨a, mem_bits.2 ⟨a4, by rw [hy]; simp [a1, a2]⟩, (h.2 a a4 j).2 ⟨hj, a3⟩⟩
  refine ⟨by unfold joinL; rw [setG_len, h.1], fun i hi j => ?_⟩
  unfold joinL
  rw [setG_at, jo_more]
  by_cases hq : (orG g (bitsL y)).testBit i = true
  · rw [if_pos ⟨mem_bits.2 ⟨hi, hq⟩, by rw [h.1]; exact hi⟩, hall]
    obtain ⟨_, a, a1, a2, a3⟩ := (hall i).1 hq
    constructor
    · rintro ⟨h1, h2⟩
      exact ⟨h1, .inr ⟨⟨a, a1, a2, a3⟩, h2⟩⟩
    · rintro ⟨h1, h2 | h2⟩
      · exact ⟨h1, a, a1, a2, a3.trans h2⟩
      · exact ⟨h1, h2.2⟩
  · rw [if_neg (fun q => hq (mem_bits.1 q.1).2), h.2 i hi j]
    constructor
    · rintro ⟨h1, h2⟩; exact ⟨h1, .inl h2⟩
    · rintro ⟨h1, h2 | ⟨h2, _⟩⟩
      · exact ⟨h1, h2⟩
      · exact absurd ((hall i).2 ⟨hi, h2⟩) hq

/-! ### The numbers of classes -/

theorem bitsF_head {s m : Nat} {t : List Nat} : ∀ (n i : Nat), bitsF s i n = m :: t → i ≤ m ∧ s.testBit m = true ∧ ∀ j, i ≤ j → j < i + n → s.testBit j = true → m ≤ j
  | 0, i, h => by simp [bitsF] at h
  | n + 1, i, h => by
    cases hs : s.testBit i
    · rw [bitsF_no n hs] at h
      obtain ⟨h1, h2, h3⟩ := bitsF_head n (i + 1) h
      refine ⟨by omega, h2, fun j j1 j2 j3 => h3 j ?_ (by omega) j3⟩
      by_cases e : j = i
      · rw [e, hs] at j3; cases j3
      · omega
    · rw [bitsF_yes n hs] at h
      cases h
      exact ⟨Nat.le_refl _, hs, fun j j1 _ _ => j1⟩
theorem bits_head {s m : Nat} {t : List Nat} (h : bitsL s = m :: t) : m < 64 ∧ s.testBit m = true ∧ ∀ j, j < 64 → s.testBit j = true → m ≤ j := by
  obtain ⟨h1, h2, h3⟩ := bitsF_head 64 0 h
  have : m ∈ bitsL s := by rw [h]; simp
  exact ⟨(mem_bits.1 this).1, h2, fun j hj hb => h3 j (Nat.zero_le _) (by omega) hb⟩

/-- The class of the least site of a set. -/
def ofL (x : Nat) (l : List Nat) : Nat := match bitsL x with | [] => 0 | k :: _ => l.getD k 0
theorem ofL_nil {x : Nat} (l : List Nat) (h : bitsL x = []) : ofL x l = 0 := by unfold ofL; rw [h]
theorem ofL_cons {x m : Nat} {t : List Nat} (l : List Nat) (h : bitsL x = m :: t) : ofL x l = l.getD m 0 := by unfold ofL; rw [h]

structure NumS (n : Nat) (L : List Nat) (l : List Nat) : Prop where
  len : l.length = n
  pos : ∀ i, i < n → 1 ≤ l.getD i 0
  same : ∀ i j, i < n → j < n → (l.getD i 0 = l.getD j 0 ↔ Jo n L i j)
  low : ∀ i, i < n → ∀ c, 1 ≤ c → c < l.getD i 0 → ∃ j, j < i ∧ l.getD j 0 = c

theorem NumS.eq {n : Nat} {L l k : List Nat} (h : NumS n L l) (h' : NumS n L k) : ∀ i, l.getD i 0 = k.getD i 0 := by
  intro i
  induction i using Nat.strongRecOn with
  | _ i ih =>
    by_cases hi : i < n
    · have p1 := h.pos i hi
      have p2 := h'.pos i hi
      by_cases q1 : l.getD i 0 < k.getD i 0
      · obtain ⟨j, hj, e⟩ := h'.low i hi _ p1 q1
        rw [← ih j hj] at e
        have := (h.same j i (by omega) hi).1 e
        have := (h'.same j i (by omega) hi).2 this
        rw [← this, ← ih j hj, e]
      · by_cases q2 : k.getD i 0 < l.getD i 0
        · obtain ⟨j, hj, e⟩ := h.low i hi _ p2 q2
          rw [ih j hj] at e
          have := (h'.same j i (by omega) hi).1 e
          have := (h.same j i (by omega) hi).2 this
          rw [← this, ih j hj, e]
        · omega
    · simp [List.getD, List.getElem?_eq_none (show l.length ≤ i by rw [h.len]; omega), List.getElem?_eq_none (show k.length ≤ i by rw [h'.len]; omega)]
/-- The first k sites have their numbers. -/
structure NumK (n : Nat) (L : List Nat) (l : List Nat) (k last : Nat) : Prop where
  len : l.length = n
  le : k ≤ n
  pos : ∀ i, i < k → 1 ≤ l.getD i 0 ∧ l.getD i 0 ≤ last
  same : ∀ i j, i < k → j < k → (l.getD i 0 = l.getD j 0 ↔ Jo n L i j)
  low : ∀ i, i < k → ∀ c, 1 ≤ c → c < l.getD i 0 → ∃ j, j < i ∧ l.getD j 0 = c
  zero : ∀ i, k ≤ i → l.getD i 0 = 0
  all : ∀ c, 1 ≤ c → c ≤ last → ∃ j, j < k ∧ l.getD j 0 = c
  most : last ≤ k

theorem numK_start (n : Nat) (L : List Nat) : NumK n L (List.replicate n 0) 0 0 := by
  refine ⟨by simp, Nat.zero_le _, fun i hi => by omega, fun i j hi => by omega, fun i hi => by omega, fun i _ => ?_, fun c h1 h2 => by omega, Nat.le_refl _⟩
  simp only [List.getD, List.getElem?_replicate]
  split <;> rfl
theorem numK_end {n : Nat} {L l : List Nat} {last : Nat} (h : NumK n L l n last) : NumS n L l := ⟨h.len, fun i hi => (h.pos i hi).1, h.same, h.low⟩

theorem NumK.put {n : Nat} {L l : List Nat} {k last v last' : Nat} (h : NumK n L l k last) (hk : k < n) (h1 : 1 ≤ v) (h2 : v ≤ last') (h3 : last ≤ last') (h6 : last' ≤ k + 1)
    (h4 : ∀ j, j < k → (l.getD j 0 = v ↔ Jo n L j k)) (h5 : ∀ c, 1 ≤ c → c < v → ∃ j, j < k ∧ l.getD j 0 = c) (h7 : ∀ c, last < c → c ≤ last' → c = v) : NumK n L (l.set k v) (k + 1) last' := by
  have g : ∀ i, (l.set k v).getD i 0 = if i = k then v else l.getD i 0 := fun i => by
    rw [getD_set]
    by_cases e : i = k
    · subst e; simp [h.len, hk]
    · have : ¬ k = i := fun q => e q.symm
      simp [e, this]
  have go : ∀ i, i < k → (l.set k v).getD i 0 = l.getD i 0 := fun i hi => by rw [g, if_neg (by omega)]
  have gk : (l.set k v).getD k 0 = v := by rw [g, if_pos rfl]
  refine ⟨by simp [h.len], hk, fun i hi => ?_, fun i j hi hj => ?_, fun i hi c c1 c2 => ?_, fun i hi => ?_, fun c c1 c2 => ?_, h6⟩
  · by_cases e : i = k
    · subst e; rw [gk]; exact ⟨h1, h2⟩
    · rw [go i (by omega)]
      have := h.pos i (by omega)
      exact ⟨this.1, by omega⟩
  · by_cases e : i = k
    · subst e
      by_cases e2 : j = i
      · subst e2; exact ⟨fun _ => Jo.refl _ _ _, fun _ => rfl⟩
      · rw [gk, go j (by omega)]
        have := h4 j (by omega)
        exact ⟨fun q => (this.1 q.symm).symm, fun q => (this.2 q.symm).symm⟩
    · by_cases e2 : j = k
      · subst e2
        rw [gk, go i (by omega)]
        exact h4 i (by omega)
      · rw [go i (by omega), go j (by omega)]
        exact h.same i j (by omega) (by omega)
  · by_cases e : i = k
    · subst e
      rw [gk] at c2
      obtain ⟨j, hj, q⟩ := h5 c c1 c2
      exact ⟨j, hj, by rw [go j hj]; exact q⟩
    · rw [go i (by omega)] at c2
      obtain ⟨j, hj, q⟩ := h.low i (by omega) c c1 c2
      exact ⟨j, hj, by rw [go j (by omega)]; exact q⟩
  · rw [g, if_neg (by omega)]
    exact h.zero i (by omega)
  · by_cases q : c ≤ last
    · obtain ⟨j, hj, e⟩ := h.all c c1 q
      exact ⟨j, by omega, by rw [go j hj]; exact e⟩
    · exact ⟨k, by omega, by rw [gk]; exact (h7 c (by omega) c2).symm⟩

/-- One site more: its number is that of the least site that is one with it, or a new one. -/
theorem numK_next {n : Nat} {L l g : List Nat} {k last : Nat} (h : NumK n L l k last) (hk : k < n) (hn : n ≤ 64) (hg : GI n L g) :
    (ofL (g.getD k 0) l ≠ 0 → NumK n L (l.set k (ofL (g.getD k 0) l)) (k + 1) last) ∧ (ofL (g.getD k 0) l = 0 → NumK n L (l.set k (last + 1)) (k + 1) (last + 1)) := by
  have hb : ∀ j, (g.getD k 0).testBit j = true ↔ j < 64 ∧ Jo n L k j := hg.2 k (by omega)
  have bk := (hb k).2 ⟨by omega, Jo.refl _ _ _⟩
  have hm : k ∈ bitsL (g.getD k 0) := mem_bits.2 ⟨by omega, bk⟩
  cases hl : bitsL (g.getD k 0) with
  | nil => rw [hl] at hm; cases hm
  | cons m t =>
    obtain ⟨m1, m2, m3⟩ := bits_head hl
    have mk := m3 k (by omega) bk
    have jm := ((hb m).1 m2).2
    have old : ∀ j, j < k → Jo n L j k → m ≤ j := fun j hj q => m3 j (by omega) ((hb j).2 ⟨by omega, q.symm⟩)
    rw [ofL_cons l hl]
    constructor
    · intro h0
      have hmk : m < k := by
        by_cases e : m < k
        · exact e
        · have : m = k := by omega
          rw [this, h.zero k (Nat.le_refl _)] at h0
          exact absurd rfl h0
      have hp := h.pos m hmk
      refine h.put hk hp.1 hp.2 (Nat.le_refl _) (by have := h.most; omega) (fun j hj => ?_) (fun c c1 c2 => ?_) (fun c c1 c2 => by omega)
      · rw [h.same j m hj hmk]
        exact ⟨fun q => q.trans jm.symm, fun q => q.trans jm⟩
      · obtain ⟨j, hj, e⟩ := h.low m hmk c c1 c2
        exact ⟨j, by omega, e⟩
    · intro h0
      have hmk : m = k := by
        by_cases e : m < k
        · have := (h.pos m e).1; omega
        · omega
      subst hmk
      refine h.put hk (by omega) (Nat.le_refl _) (by omega) (by have := h.most; omega) (fun j hj => ⟨fun q => ?_, fun q => ?_⟩) (fun c c1 c2 => h.all c c1 (by omega)) (fun c c1 c2 => by omega)
      · have := (h.pos j hj).2; omega
      · have := old j hj q; omega
end Go.Proofs.YtdpbapoahfggeaaDoor
