/- Numbers and texts as bytes, plainly: lists of bytes, and what is read of them. No Go in here, and no conditions. -/
namespace Go.Proofs.Ytneifmjaploflaa.PenMath

/-- A number's bytes. -/
def natB (n : Nat) : List UInt8 :=
  if h : n < 128 then [UInt8.ofNat n] else
    have : n / 128 < n := by omega
    UInt8.ofNat (n % 128 + 128) :: natB (n / 128)

theorem natB_lt (n : Nat) (h : n < 128) : natB n = [UInt8.ofNat n] := by rw [natB, dif_pos h]
theorem natB_ge (n : Nat) (h : ¬ n < 128) : natB n = UInt8.ofNat (n % 128 + 128) :: natB (n / 128) := by rw [natB, dif_neg h]

theorem ofNat_toNat (n : Nat) (h : n < 256) : (UInt8.ofNat n).toNat = n := by simp [UInt8.toNat_ofNat']; omega

/-- The number that bytes begin with. -/
def dec : List UInt8 → Option Nat
  | [] => none
  | b :: r => if b.toNat < 128 then some b.toNat else match dec r with
    | some m => if m = 0 then none else some (b.toNat % 128 + 128 * m)
    | none => none

/-- Of 64 bits. -/
def rd (l : List UInt8) : Option Nat := match dec l with
  | some n => if n < 18446744073709551616 then some n else none
  | none => none

/-- What bytes are worth, seven bits each, the lowest first. -/
def val : List UInt8 → Nat
  | [] => 0
  | b :: r => b.toNat % 128 + 128 * val r

/-- A byte behind which the number goes on. -/
def Goes (p : List UInt8) : Prop := ∀ b ∈ p, 128 ≤ b.toNat

theorem natB_ne (n : Nat) : natB n ≠ [] := by
  by_cases h : n < 128
  · rw [natB_lt n h]; simp
  · rw [natB_ge n h]; simp

theorem dec_natB (n : Nat) (r : List UInt8) : dec (natB n ++ r) = some n := by
  induction n using Nat.strongRecOn with
  | ind n ih =>
    by_cases h : n < 128
    · rw [natB_lt n h]
      simp only [List.cons_append, List.nil_append, dec, ofNat_toNat n (by omega), if_pos h]
    · rw [natB_ge n h]
      simp only [List.cons_append, dec, ofNat_toNat (n % 128 + 128) (by omega)]
      rw [if_neg (by omega), ih (n / 128) (by omega)]
      simp only
      rw [if_neg (by omega)]
      congr 1
      omega

theorem dec_end (p : List UInt8) (b : UInt8) (r : List UInt8) (v : Nat) (hp : Goes p) (hb : b.toNat < 128) (h : dec (p ++ b :: r) = some v) : natB v = p ++ [b] ∧ v = val (p ++ [b]) := by
  induction p generalizing v with
  | nil =>
    simp only [List.nil_append, dec, if_pos hb, Option.some.injEq] at h
    subst h
    refine ⟨?_, by simp [val]; omega⟩
    rw [natB_lt _ hb]
    simp
  | cons c p ih =>
    have hc : 128 ≤ c.toNat := hp c (by simp)
    have hc2 := c.toNat_lt
    simp only [List.cons_append, dec] at h
    rw [if_neg (by omega)] at h
    cases hd : dec (p ++ b :: r) with
    | none => rw [hd] at h; cases h
    | some m =>
      rw [hd] at h
      simp only at h
      obtain ⟨i1, i2⟩ := ih m (fun x hx => hp x (by simp [hx])) hd
      by_cases hm : m = 0
      · rw [if_pos hm] at h; cases h
      · rw [if_neg hm] at h
        simp only [Option.some.injEq] at h
        refine ⟨?_, ?_⟩
        · rw [natB_ge v (by omega), show v / 128 = m by omega, i1]
          congr 1
          apply UInt8.toNat_inj.1
          rw [ofNat_toNat _ (by omega)]
          omega
        · rw [← h, i2]; rfl

/-- What is read stands there. -/
theorem dec_is (l : List UInt8) (v : Nat) (h : dec l = some v) : ∃ r, l = natB v ++ r := by
  induction l generalizing v with
  | nil => simp [dec] at h
  | cons b l ih =>
    have hc2 := b.toNat_lt
    simp only [dec] at h
    by_cases hb : b.toNat < 128
    · rw [if_pos hb] at h
      simp only [Option.some.injEq] at h
      subst h
      exact ⟨l, by rw [natB_lt _ hb]; simp⟩
    · rw [if_neg hb] at h
      cases hd : dec l with
      | none => rw [hd] at h; cases h
      | some m =>
        rw [hd] at h
        simp only at h
        obtain ⟨r, hr⟩ := ih m hd
        by_cases hm : m = 0
        · rw [if_pos hm] at h; cases h
        · rw [if_neg hm] at h
          simp only [Option.some.injEq] at h
          refine ⟨r, ?_⟩
          rw [natB_ge v (by omega), show v / 128 = m by omega, List.cons_append, ← hr]
          congr 1
          apply UInt8.toNat_inj.1
          rw [ofNat_toNat _ (by omega)]
          omega

theorem val_app (p q : List UInt8) : val (p ++ q) = val p + 128 ^ p.length * val q := by
  induction p with
  | nil => simp [val]
  | cons b p ih =>
    simp only [List.cons_append, val, ih, List.length_cons, Nat.pow_succ]
    rw [Nat.mul_add, Nat.mul_comm (128 ^ p.length) 128, Nat.mul_assoc]
    omega

theorem val_lt (p : List UInt8) : val p < 128 ^ p.length := by
  induction p with
  | nil => simp [val]
  | cons b p ih =>
    simp only [val, List.length_cons, Nat.pow_succ]
    omega

/-- Ahead of bytes behind which it goes on. -/
theorem dec_goes (p r : List UInt8) (hp : Goes p) : dec (p ++ r) = match dec r with
    | some m => if p ≠ [] ∧ m = 0 then none else some (val p + 128 ^ p.length * m)
    | none => none := by
  induction p with
  | nil => cases h : dec r <;> simp [val, h]
  | cons b p ih =>
    have hc : 128 ≤ b.toNat := hp b (by simp)
    simp only [List.cons_append, dec]
    rw [if_neg (by omega), ih (fun x hx => hp x (by simp [hx]))]
    cases h : dec r with
    | none => rfl
    | some m =>
      simp only
      by_cases hm : m = 0
      · subst hm
        by_cases hn : p = []
        · subst hn; simp [val]
        · simp [hn]
      · have hz : ¬ (p ≠ [] ∧ m = 0) := fun x => hm x.2
        rw [if_neg hz]
        simp only
        have hpos : 0 < 128 ^ p.length * m := Nat.mul_pos (Nat.pow_pos (by decide)) (by omega)
        rw [if_neg (by omega), if_neg (fun x => hm x.2)]
        congr 1
        simp only [val, List.length_cons, Nat.pow_succ]
        rw [Nat.mul_add, ← Nat.mul_assoc, Nat.mul_comm 128 (128 ^ p.length)]
        omega

theorem dec_none (p : List UInt8) (hp : Goes p) : dec p = none := by
  have := dec_goes p [] hp
  simpa [dec] using this

theorem rd_none (p : List UInt8) (hp : Goes p) : rd p = none := by rw [rd, dec_none p hp]

theorem rd_long (p r : List UInt8) (hp : Goes p) (hl : 10 ≤ p.length) : rd (p ++ r) = none := by
  unfold rd
  rw [dec_goes p r hp]
  cases h : dec r with
  | none => rfl
  | some m =>
    simp only
    by_cases hz : p ≠ [] ∧ m = 0
    · rw [if_pos hz]
    · rw [if_neg hz]
      have hm : m ≠ 0 := fun hm => hz ⟨by intro e; subst e; simp at hl, hm⟩
      have h1 : 128 ^ 10 ≤ 128 ^ p.length := Nat.pow_le_pow_right (by decide) hl
      have h2 : 128 ^ p.length * 1 ≤ 128 ^ p.length * m := Nat.mul_le_mul_left _ (by omega)
      have h3 : (128 : Nat) ^ 10 = 1180591620717411303424 := by decide
      simp only
      rw [if_neg (by omega)]

theorem rd_nine (p : List UInt8) (b : UInt8) (r : List UInt8) (hp : Goes p) (hl : p.length = 9) (hb : 1 < b.toNat) : rd (p ++ b :: r) = none := by
  unfold rd
  rw [dec_goes p _ hp]
  have h3 : (128 : Nat) ^ 9 = 9223372036854775808 := by decide
  cases h : dec (b :: r) with
  | none => rfl
  | some m =>
    simp only
    by_cases hz : p ≠ [] ∧ m = 0
    · rw [if_pos hz]
    · rw [if_neg hz]
      have hm : 2 ≤ m := by
        simp only [dec] at h
        by_cases hb2 : b.toNat < 128
        · rw [if_pos hb2] at h
          simp only [Option.some.injEq] at h
          omega
        · rw [if_neg hb2] at h
          cases hd : dec r with
          | none => rw [hd] at h; cases h
          | some k =>
            rw [hd] at h
            simp only at h
            by_cases hk : k = 0
            · rw [if_pos hk] at h; cases h
            · rw [if_neg hk] at h
              simp only [Option.some.injEq] at h
              omega
      rw [hl, h3]
      simp only
      rw [if_neg (by omega)]

theorem rd_nought (p : List UInt8) (b : UInt8) (r : List UInt8) (hp : Goes p) (hl : p ≠ []) (hb : b.toNat = 0) : rd (p ++ b :: r) = none := by
  unfold rd
  rw [dec_goes p _ hp]
  simp [dec, hb, hl]

theorem rd_ends (p : List UInt8) (b : UInt8) (r : List UInt8) (hp : Goes p) (hb : b.toNat < 128) (hn : p = [] ∨ b.toNat ≠ 0) (hl : p.length ≤ 9) (h9 : p.length = 9 → b.toNat ≤ 1) :
    rd (p ++ b :: r) = some (val (p ++ [b])) ∧ (natB (val (p ++ [b]))).length = p.length + 1 ∧ val (p ++ [b]) < 18446744073709551616 := by
  have hd : dec (p ++ b :: r) = some (val p + 128 ^ p.length * b.toNat) := by
    rw [dec_goes p _ hp]
    simp only [dec, if_pos hb]
    rw [if_neg (by rintro ⟨h1, h2⟩; rcases hn with hn | hn <;> contradiction)]
  obtain ⟨e1, e2⟩ := dec_end p b r _ hp hb hd
  have hlt : val (p ++ [b]) < 18446744073709551616 := by
    rw [← e2]
    have hv := val_lt p
    by_cases h : p.length = 9
    · have := h9 h
      rw [h] at hv ⊢
      have h3 : (128 : Nat) ^ 9 = 9223372036854775808 := by decide
      rw [h3] at hv ⊢
      omega
    · have h1 : 128 ^ p.length ≤ 128 ^ 8 := Nat.pow_le_pow_right (by decide) (by omega)
      have h2 : 128 ^ p.length * b.toNat ≤ 128 ^ 8 * 127 := Nat.mul_le_mul h1 (by omega)
      have h3 : (128 : Nat) ^ 8 = 72057594037927936 := by decide
      omega
  refine ⟨?_, by rw [← e2, e1]; simp, hlt⟩
  rw [rd, hd]
  simp only
  rw [if_pos (by rw [e2]; exact hlt), e2]

/-- What is read of what was put. -/
theorem rd_natB (n : Nat) (r : List UInt8) (h : n < 18446744073709551616) : rd (natB n ++ r) = some n := by
  rw [rd, dec_natB]; simp only; rw [if_pos h]

theorem rd_is (l : List UInt8) (v : Nat) (h : rd l = some v) : v < 18446744073709551616 ∧ ∃ r, l = natB v ++ r := by
  unfold rd at h
  cases hd : dec l with
  | none => rw [hd] at h; cases h
  | some m =>
    rw [hd] at h
    simp only at h
    by_cases hm : m < 18446744073709551616
    · rw [if_pos hm] at h
      simp only [Option.some.injEq] at h
      subst h
      exact ⟨hm, dec_is l m hd⟩
    · rw [if_neg hm] at h; cases h

theorem natB_goes (n : Nat) : ∃ p b, natB n = p ++ [b] ∧ Goes p ∧ b.toNat < 128 := by
  induction n using Nat.strongRecOn with
  | ind n ih =>
    by_cases h : n < 128
    · exact ⟨[], UInt8.ofNat n, by rw [natB_lt n h]; simp, ⟨(fun _ hx => by cases hx), by rw [ofNat_toNat n (by omega)]; exact h⟩⟩
    · obtain ⟨p, b, e, hp, hb⟩ := ih (n / 128) (by omega)
      refine ⟨UInt8.ofNat (n % 128 + 128) :: p, b, by rw [natB_ge n h, e]; rfl, ?_, hb⟩
      intro x hx
      rcases List.mem_cons.1 hx with rfl | hx
      · rw [ofNat_toNat _ (by omega)]; omega
      · exact hp x hx

/-- Cut bytes are no number. -/
theorem rd_cut (n k : Nat) (h : k < (natB n).length) : rd ((natB n).take k) = none := by
  obtain ⟨p, b, e, hp, hb⟩ := natB_goes n
  rw [e] at h ⊢
  simp only [List.length_append, List.length_cons, List.length_nil] at h
  rw [List.take_append_of_le_length (by omega)]
  exact rd_none _ (fun x hx => hp x (List.mem_of_mem_take hx))

theorem natB_length (n : Nat) (k : Nat) (h : n < 128 ^ k) (hk : 0 < k) : (natB n).length ≤ k := by
  induction k generalizing n with
  | zero => omega
  | succ k ih =>
    by_cases h1 : n < 128
    · rw [natB_lt n h1]; simp
    · rw [natB_ge n h1]
      simp only [List.length_cons]
      have hk : 0 < k := by
        rcases Nat.eq_zero_or_pos k with rfl | h
        · simp at h; omega
        · exact h
      have := ih (n / 128) (by rw [Nat.pow_succ] at h; omega) hk
      omega

theorem natB_ten (n : Nat) (h : n < 18446744073709551616) : (natB n).length ≤ 10 :=
  natB_length n 10 (by have h3 : (128 : Nat) ^ 10 = 1180591620717411303424 := by decide
                       omega) (by decide)

/-- A number with a sign, as one without. -/
def zz (n : Int) : Nat := if 0 ≤ n then (2 * n).toNat else (-2 * n - 1).toNat
/-- And back. -/
def unzz (n : Nat) : Int := if n % 2 = 0 then ((n / 2 : Nat) : Int) else -((n / 2 : Nat) : Int) - 1

theorem unzz_zz (n : Int) : unzz (zz n) = n := by unfold unzz zz; split <;> split <;> omega
theorem zz_lt (n : Int) (h1 : -9223372036854775808 ≤ n) (h2 : n ≤ 9223372036854775807) : zz n < 18446744073709551616 := by unfold zz; split <;> omega

/-- What an eye is: what is left, and whether something was wrong. -/
structure Eye where
  rest : List UInt8
  bad : Bool

def Eye.nat (e : Eye) (most : Nat) : Nat × Eye :=
  if e.bad then (0, e) else match rd e.rest with
    | some n => if n ≤ most then (n, ⟨e.rest.drop (natB n).length, false⟩) else (0, ⟨e.rest, true⟩)
    | none => (0, ⟨e.rest, true⟩)

def Eye.int (e : Eye) : Int × Eye := (unzz (e.nat 18446744073709551615).1, (e.nat 18446744073709551615).2)

def Eye.text (e : Eye) (most : Int) : List UInt8 × Eye :=
  let x := e.nat most.toNat
  if x.2.bad then ([], x.2) else if x.1 ≤ x.2.rest.length then (x.2.rest.take x.1, ⟨x.2.rest.drop x.1, false⟩) else ([], ⟨x.2.rest, true⟩)

theorem Eye.nat_bad (l : List UInt8) (most : Nat) : (Eye.mk l true).nat most = (0, ⟨l, true⟩) := by simp [Eye.nat]
theorem Eye.int_bad (l : List UInt8) : (Eye.mk l true).int = (0, ⟨l, true⟩) := by simp [Eye.int, Eye.nat, unzz]
theorem Eye.text_bad (l : List UInt8) (most : Int) : (Eye.mk l true).text most = ([], ⟨l, true⟩) := by simp [Eye.text, Eye.nat]

theorem Eye.nat_back (n : Nat) (r : List UInt8) (most : Nat) (h : n < 18446744073709551616) (hm : n ≤ most) : (Eye.mk (natB n ++ r) false).nat most = (n, ⟨r, false⟩) := by
  simp [Eye.nat, rd_natB n r h, hm]

theorem Eye.nat_lt (e : Eye) (most : Nat) : (e.nat most).1 < 18446744073709551616 := by
  unfold Eye.nat
  split
  · simp
  · split
    · rename_i n h
      split
      · exact (rd_is _ _ h).1
      · simp
    · simp

theorem Eye.nat_short (e : Eye) (most : Nat) : (e.nat most).2.rest.length ≤ e.rest.length := by
  unfold Eye.nat
  split
  · simp
  · split
    · split <;> simp
    · simp

end Go.Proofs.Ytneifmjaploflaa.PenMath
