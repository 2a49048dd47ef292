/- Sets as numbers: their bits, one by one. Plain mathematics. -/
namespace Go.Proofs.YtdpbapoahfggeaaDoor
set_option linter.unusedVariables false

/-- The bits of a set from a place on, so many places. -/
def bitsF (s : Nat) : Nat → Nat → List Nat
  | _, 0 => []
  | i, n + 1 => if s.testBit i then i :: bitsF s (i + 1) n else bitsF s (i + 1) n
/-- The numbers of the bits that are 1, rising. -/
def bitsL (s : Nat) : List Nat := bitsF s 0 64

theorem bitsF_yes {s i : Nat} (n : Nat) (h : s.testBit i = true) : bitsF s i (n + 1) = i :: bitsF s (i + 1) n := by simp [bitsF, h]
theorem bitsF_no {s i : Nat} (n : Nat) (h : s.testBit i = false) : bitsF s i (n + 1) = bitsF s (i + 1) n := by simp [bitsF, h]

theorem bitsF_same {s t : Nat} : ∀ (n i : Nat), (∀ j, i ≤ j → s.testBit j = t.testBit j) → bitsF s i n = bitsF t i n
  | 0, _, _ => rfl
  | n + 1, i, h => by
    have h1 := h i (Nat.le_refl _)
    have h2 := bitsF_same n (i + 1) (fun j hj => h j (by omega))
    cases hs : s.testBit i
    · rw [bitsF_no n hs, bitsF_no n (h1 ▸ hs), h2]
    · rw [bitsF_yes n hs, bitsF_yes n (h1 ▸ hs), h2]

theorem bitsF_skip {s : Nat} : ∀ (k i n : Nat), (∀ j, i ≤ j → j < i + k → s.testBit j = false) → bitsF s i (k + n) = bitsF s (i + k) n
  | 0, i, n, _ => by simp
  | k + 1, i, n, h => by
    rw [show k + 1 + n = (k + n) + 1 by omega, bitsF_no _ (h i (Nat.le_refl _) (by omega)), bitsF_skip k (i + 1) n (fun j h1 h2 => h j (by omega) (by omega)), show i + 1 + k = i + (k + 1) by omega]

theorem mem_bitsF {s k : Nat} : ∀ (n i : Nat), k ∈ bitsF s i n ↔ i ≤ k ∧ k < i + n ∧ s.testBit k = true
  | 0, i => by simp [bitsF]; omega
  | n + 1, i => by
    cases hs : s.testBit i
    · rw [bitsF_no n hs, mem_bitsF n (i + 1)]
      constructor
      · rintro ⟨h1, h2, h3⟩; exact ⟨by omega, by omega, h3⟩
      · rintro ⟨h1, h2, h3⟩
        have : k ≠ i := fun e => by rw [e, hs] at h3; cases h3
        exact ⟨by omega, by omega, h3⟩
    · rw [bitsF_yes n hs, List.mem_cons, mem_bitsF n (i + 1)]
      constructor
      · rintro (rfl | ⟨h1, h2, h3⟩)
        · exact ⟨by omega, by omega, hs⟩
        · exact ⟨by omega, by omega, h3⟩
      · rintro ⟨h1, h2, h3⟩
        by_cases e : k = i
        · exact .inl e
        · exact .inr ⟨by omega, by omega, h3⟩

theorem mem_bits {s k : Nat} : k ∈ bitsL s ↔ k < 64 ∧ s.testBit k = true := by
  unfold bitsL
  rw [mem_bitsF]
  simp

theorem bitsF_len (s : Nat) : ∀ (n i : Nat), (bitsF s i n).length ≤ n
  | 0, _ => by simp [bitsF]
  | n + 1, i => by
    have := bitsF_len s n (i + 1)
    cases hs : s.testBit i
    · rw [bitsF_no n hs]; omega
    · rw [bitsF_yes n hs]; simp; omega
theorem bits_len (s : Nat) : (bitsL s).length ≤ 64 := bitsF_len s 64 0
theorem bits_zero : bitsL 0 = [] := by
  cases h : bitsL 0 with
  | nil => rfl
  | cons a l =>
    have : a ∈ bitsL 0 := by rw [h]; simp
    rw [mem_bits] at this
    simp at this

/-- A number's lowest bit. -/
theorem low_of : ∀ (x : Nat), x ≠ 0 → ∃ k m, x = 2 ^ (k + 1) * m + 2 ^ k := fun x => by
  induction x using Nat.strongRecOn with
  | _ x ih =>
    intro h0
    by_cases h : x % 2 = 1
    · exact ⟨0, x / 2, by simp; omega⟩
    · obtain ⟨k, m, e⟩ := ih (x / 2) (by omega) (by omega)
      refine ⟨k + 1, m, ?_⟩
      have e1 : 2 ^ (k + 1 + 1) * m = 2 * (2 ^ (k + 1) * m) := by rw [Nat.pow_succ 2 (k + 1), Nat.mul_right_comm, Nat.mul_comm]
      have e2 : 2 ^ (k + 1) = 2 * 2 ^ k := by rw [Nat.pow_succ 2 k, Nat.mul_comm]
      rw [e1]
      generalize 2 ^ (k + 1) * m = y at *
      omega

theorem low_bit {x k m : Nat} (e : x = 2 ^ (k + 1) * m + 2 ^ k) (i : Nat) : x.testBit i = if i < k then false else if i = k then true else m.testBit (i - (k + 1)) := by
  have hp : 2 ^ k < 2 ^ (k + 1) := Nat.pow_lt_pow_of_lt (by omega) (by omega)
  rw [e, Nat.testBit_two_pow_mul_add m hp i]
  by_cases h1 : i < k
  · rw [if_pos (by omega), if_pos h1, Nat.testBit_two_pow]; simp; omega
  · by_cases h2 : i = k
    · subst h2
      rw [if_pos (by omega), if_neg h1, if_pos rfl, Nat.testBit_two_pow]; simp
    · rw [if_neg (by omega), if_neg h1, if_neg h2]
theorem low_pred {x k m : Nat} (e : x = 2 ^ (k + 1) * m + 2 ^ k) (i : Nat) : (x - 1).testBit i = if i < k then true else if i = k then false else m.testBit (i - (k + 1)) := by
  have hp : 2 ^ k < 2 ^ (k + 1) := Nat.pow_lt_pow_of_lt (by omega) (by omega)
  have h0 : 0 < 2 ^ k := Nat.two_pow_pos k
  rw [e, show 2 ^ (k + 1) * m + 2 ^ k - 1 = 2 ^ (k + 1) * m + (2 ^ k - 1) by omega, Nat.testBit_two_pow_mul_add m (by omega) i]
  by_cases h1 : i < k
  · rw [if_pos (by omega), if_pos h1, Nat.testBit_two_pow_sub_one]; simp [h1]
  · by_cases h2 : i = k
    · subst h2
      rw [if_pos (by omega), if_neg h1, if_pos rfl, Nat.testBit_two_pow_sub_one]; simp
    · rw [if_neg (by omega), if_neg h1, if_neg h2]

theorem low_and {x k m : Nat} (e : x = 2 ^ (k + 1) * m + 2 ^ k) (hx : x < 2 ^ 64) : x &&& (2 ^ 64 - x) = 2 ^ k := by
  have h0 : 0 < 2 ^ k := Nat.two_pow_pos k
  have h1 : 0 < x := by omega
  apply Nat.eq_of_testBit_eq
  intro i
  have hy := Nat.testBit_two_pow_sub_succ (x := x - 1) (n := 64) (by omega) i
  rw [show x - 1 + 1 = x by omega] at hy
  rw [Nat.testBit_and, hy, low_bit e i, low_pred e i, Nat.testBit_two_pow]
  have hk : k < 64 := by
    have : 2 ^ k < 2 ^ 64 := by
      have : 2 ^ k ≤ x := by rw [e]; exact Nat.le_add_left _ _
      omega
    exact (Nat.pow_lt_pow_iff_right (by omega)).1 this
  by_cases a : i < k
  · rw [if_pos a]; simp; omega
  · by_cases b : i = k
    · subst b; simp [hk]
    · rw [if_neg a, if_neg b]
      have : ¬ k = i := fun q => b q.symm
      simp [this]
      by_cases c : i < 64
      · simp [b]
        intro p _ _
        exact p
      · simp [c]

theorem low_lt {x k m : Nat} (e : x = 2 ^ (k + 1) * m + 2 ^ k) (hx : x < 2 ^ 64) : k < 64 := by
  have : 2 ^ k < 2 ^ 64 := by
    have : 2 ^ k ≤ x := by rw [e]; exact Nat.le_add_left _ _
    omega
  exact (Nat.pow_lt_pow_iff_right (by omega)).1 this

/-- The bits: the lowest one, and then those without it. -/
theorem bits_cons {x k m : Nat} (e : x = 2 ^ (k + 1) * m + 2 ^ k) (hx : x < 2 ^ 64) : bitsL x = k :: bitsL (x &&& (x - 1)) := by
  have hk := low_lt e hx
  have h1 : bitsL x = bitsF x k (63 - k + 1) := by
    have := bitsF_skip (s := x) k 0 (63 - k + 1) (fun j _ hj => by rw [low_bit e, if_pos (by omega)])
    rw [show k + (63 - k + 1) = 64 by omega, Nat.zero_add] at this
    exact this
  have h2 : bitsL (x &&& (x - 1)) = bitsF (x &&& (x - 1)) (k + 1) (63 - k) := by
    have := bitsF_skip (s := x &&& (x - 1)) (k + 1) 0 (63 - k) (fun j _ hj => by
      rw [Nat.testBit_and, low_bit e, low_pred e]
      by_cases a : j < k
      · simp [a]
      · have : j = k := by omega
        simp [this])
    rw [show k + 1 + (63 - k) = 64 by omega, Nat.zero_add] at this
    exact this
  rw [h1, bitsF_yes _ (by rw [low_bit e]; simp), h2]
  congr 1
  refine bitsF_same _ _ fun j hj => ?_
  rw [Nat.testBit_and, low_bit e, low_pred e, if_neg (by omega), if_neg (by omega), if_neg (by omega), if_neg (by omega)]
  cases m.testBit (j - (k + 1)) <;> rfl

/-- The table's places. -/
def deB : List Nat := [0, 1, 56, 2, 57, 49, 28, 3, 61, 58, 42, 50, 38, 29, 17, 4, 62, 47, 59, 36, 45, 43, 51, 22, 53, 39, 33, 30, 24, 18, 12, 5, 63, 55, 48, 27, 60, 41, 37, 16, 46, 35, 44, 21, 52, 32, 23, 11, 54, 26, 40, 15, 34, 20, 31, 10, 25, 14, 19, 9, 13, 8, 7, 6]
theorem deB_at : ∀ k, k < 64 → (2 ^ k * 285870213051353865 % 18446744073709551616) / 288230376151711744 < 64 ∧ deB.getD ((2 ^ k * 285870213051353865 % 18446744073709551616) / 288230376151711744) 0 = k := by decide
end Go.Proofs.YtdpbapoahfggeaaDoor
