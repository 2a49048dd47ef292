/- What lies between tokens, plainly, and the contract of lex's between. -/
import Derived.Test.YtdankjkmgcclhaaDoorStrs
import Derived.WalkMore
namespace Go.Proofs.YtdankjkmgcclhaaDoor
open Go.ChangeShapes Go.WideShapes Go.ChangeAt Go.RowKit
set_option linter.unusedVariables false

/-- How many bytes lie ahead of the next token, within a note, or not. -/
def gapN : Bool → List UInt8 → Nat
  | _, [] => 0
  | b, c :: r => if c = 10 then gapN false r + 1 else if b = true ∨ c = 32 ∨ c = 9 ∨ c = 13 then gapN b r + 1 else if preB [47, 47] (c :: r) = true then gapN true r + 1 else 0

theorem gap_nl (b : Bool) (r : List UInt8) : gapN b (10 :: r) = gapN false r + 1 := by simp [gapN]
theorem gap_noted (c : UInt8) (r : List UInt8) (h : c ≠ 10) : gapN true (c :: r) = gapN true r + 1 := by simp [gapN, h]
theorem gap_blank (b : Bool) (c : UInt8) (r : List UInt8) (h : c ≠ 10) (hc : c = 32 ∨ c = 9 ∨ c = 13) : gapN b (c :: r) = gapN b r + 1 := by simp [gapN, h, hc]
theorem gap_note (c : UInt8) (r : List UInt8) (h : preB [47, 47] (c :: r) = true) : gapN false (c :: r) = gapN true r + 1 := by
  have hc : c = 47 := by
    simp only [preB, beq_iff_eq] at h
    simp at h
    exact h.1
  subst hc
  simp [gapN, h]
theorem gap_stop (c : UInt8) (r : List UInt8) (h : c ≠ 10) (hc : ¬ (c = 32 ∨ c = 9 ∨ c = 13)) (hp : preB [47, 47] (c :: r) = false) : gapN false (c :: r) = 0 := by simp [gapN, h, hc, hp]
theorem gap_le (b : Bool) (l : List UInt8) : gapN b l ≤ l.length := by
  induction l generalizing b with
  | nil => simp [gapN]
  | cons c r ih =>
    have h1 := ih b; have h2 := ih false; have h3 := ih true
    simp only [gapN, List.length_cons]
    repeat' split
    all_goals omega
theorem gap_high (l : List UInt8) (n : Nat) (hn : n ≤ l.length) (h : ∀ i, (hi : i < n) → 128 ≤ (l[i]'(by omega)).toNat) : gapN true l = n + gapN true (l.drop n) := by
  induction n generalizing l with
  | zero => simp
  | succ n ih =>
    cases l with
    | nil => simp at hn
    | cons c r =>
      have h0 := h 0 (by omega)
      simp only [List.getElem_cons_zero] at h0
      rw [gap_noted c r (by rintro rfl; simp at h0), ih r (by simpa using hn) (fun i hi => by have := h (i + 1) (by omega); simpa using this)]
      simp
      omega

/-- A letter's bytes behind the first one are none of the language's. -/
theorem decode_tail (s : ByteArray) (pos : Nat) (h : pos < s.size) (hc : 128 ≤ (s[pos]'h).toNat) : pos + (Utf8.decode s pos).2 ≤ s.size ∧ ∀ i, (hi : i < (Utf8.decode s pos).2) → (hp : pos + i < s.size) → 128 ≤ (s[pos + i]'hp).toNat := by
  have g : ∀ k, (hk : pos + k < s.size) → s.get! (pos + k) = s[pos + k]'hk := fun k hk => get_at s (pos + k) hk
  have b0 : (s.get! (pos + 0)).toNat = (s[pos]'h).toNat := by rw [get_at s pos h]
  have hn : ¬ (s.get! (pos + 0)).toNat < 128 := by omega
  have one : ∀ i, i < 1 → (hp : pos + i < s.size) → 128 ≤ (s[pos + i]'hp).toNat := fun i hi hp => by
    obtain rfl : i = 0 := by omega
    exact hc
  have cont : ∀ k, (decide (pos + k < s.size) && (s.get! (pos + k)).toNat / 64 == 2) = true → pos + k < s.size ∧ ∀ hp : pos + k < s.size, 128 ≤ (s[pos + k]'hp).toNat := fun k hk => by
    simp only [Bool.and_eq_true, decide_eq_true_eq, beq_iff_eq] at hk
    refine ⟨hk.1, fun hp => ?_⟩
    rw [← g k hp]
    omega
  simp only [Utf8.decode, hn, if_false]
  repeat' split
  all_goals first
    | exact ⟨by simp; omega, fun i hi hp => one i (by simpa using hi) hp⟩
    | (rename_i h1 h2; simp only [Bool.and_eq_true] at h1
       obtain ⟨a1, c1⟩ := cont 1 (by simp only [Bool.and_eq_true]; exact h1.2)
       exact ⟨by simp; omega, fun i hi hp => by
         simp only at hi
         rcases (by omega : i = 0 ∨ i = 1) with rfl | rfl
         · exact hc
         · exact c1 hp⟩)
    | (rename_i h1 h2; simp only [Bool.and_eq_true] at h1
       obtain ⟨a1, c1⟩ := cont 1 (by simp only [Bool.and_eq_true]; exact h1.1.2)
       obtain ⟨a2, c2⟩ := cont 2 (by simp only [Bool.and_eq_true]; exact h1.2)
       exact ⟨by simp; omega, fun i hi hp => by
         simp only at hi
         rcases (by omega : i = 0 ∨ i = 1 ∨ i = 2) with rfl | rfl | rfl
         · exact hc
         · exact c1 hp
         · exact c2 hp⟩)
    | (rename_i h1 h2; simp only [Bool.and_eq_true] at h1
       obtain ⟨a1, c1⟩ := cont 1 (by simp only [Bool.and_eq_true]; exact h1.1.1.2)
       obtain ⟨a2, c2⟩ := cont 2 (by simp only [Bool.and_eq_true]; exact h1.1.2)
       obtain ⟨a3, c3⟩ := cont 3 (by simp only [Bool.and_eq_true]; exact h1.2)
       exact ⟨by simp; omega, fun i hi hp => by
         simp only at hi
         rcases (by omega : i = 0 ∨ i = 1 ∨ i = 2 ∨ i = 3) with rfl | rfl | rfl | rfl
         · exact hc
         · exact c1 hp
         · exact c2 hp
         · exact c3 hp⟩)

theorem byte_eq {c : UInt8} {n : Nat} (h : c.toNat = n) : c = UInt8.ofNat n := by rw [← h]; simp

theorem rune_ne {c : UInt8} {k : UInt8} {n : Int} (hk : (k.toNat : Int) = n) (h : c ≠ k) : ((c.toNat : Int) == n) = false := by
  rw [beq_eq_false_iff_ne]
  intro e
  exact h (UInt8.toNat_inj.1 (by omega))
theorem rune_high {r : Nat} {n : Int} (hn : n < 128) (h : 128 ≤ r) : ((r : Int) == n) = false := by
  rw [beq_eq_false_iff_ne]
  omega

/-- How the round's end is told. -/
def Mid (l : List UInt8) (b : Bool) (pos : Nat) : Prop := gapN false l = pos + gapN b (l.drop pos)

set_option maxRecDepth 100000 in
set_option maxHeartbeats 2000000 in
theorem between_any (l : List UInt8) (hl : l.length < 4611686018427387904) (w : World) :
    Calls Tryd.prog 17 #[.string (bstr l)] w fun e w' => e = .returned (.int .i64 (gapN false l)) ∧ Below w.heap.size w w' := by
  have s1 := bstr_size l
  have B : Hid (∀ p, Below w.heap.size w (w.iter (bstr l) p)) := hid (fun p => (Below.refl _ _).alloc (Nat.le_refl _) _)
  go_enter Tryd.func17, Tryd.ntmps17
  go_wp2_with fail
  go_step3
  go_wp2_with fail
  go_step3
  go_wp2_with fail
  go_loopw [3, 4] (fun sz nt wr => ∃ (pos : Nat) (b : Bool), wr = w.iter (bstr l) pos ∧ pos ≤ l.length ∧ sz = .int .i64 l.length ∧ nt = .bool b ∧ Hid (Mid l b pos)) (fun _ _ wr => l.length - wr.iterPos w.heap.size)
  case atStart => exact ⟨0, false, rfl, Nat.zero_le _, rfl, rfl, hid (by simp [Mid])⟩
  case round =>
    obtain ⟨pos, b, rfl, hp, rfl, rfl, hin⟩ := hrel
    by_cases hlt : pos < l.length
    · have hsz : pos < (bstr l).size := by omega
      have hnx := fun ty => run_next_any (P := Tryd.prog) w (bstr l) pos ty hsz
      have hg := get_bstr l pos hlt hsz
      have hd : l.drop pos = l[pos] :: l.drop (pos + 1) := List.drop_eq_getElem_cons hlt
      have C : ∀ W, Calls Tryd.prog 27 #[.string (bstr (l.drop pos)), .string { data := #[47, 47] }] W fun e w' => e = .returned (.bool (preB [47, 47] (l.drop pos))) ∧ w' = W := fun W => hasPrefix_any (l.drop pos) [47, 47] W
      have hx := extract_bstr l pos l.length rfl
      by_cases hc : (l[pos]).toNat < 128
      · rw [decode_ascii (bstr l) pos hsz (by rw [hg]; exact hc), hg] at hnx
        simp only at hnx
        by_cases h10 : l[pos] = 10
        · have F : Hid (Mid l false (pos + 1)) := hid (by
            have := hin.out
            unfold Mid at this ⊢
            rw [this, hd, h10, gap_nl]; omega)
          have t1 : (((l[pos]).toNat : Int) == 10) = true := by rw [h10]; rfl
          clear C hx hg hd
          go_wp2
          refine ⟨⟨pos + 1, false, rfl, by omega, rfl, rfl, F⟩, ?_⟩
          simp only [World.iterPos_iter]
          omega
        · have t1 : (((l[pos]).toNat : Int) == 10) = false := rune_ne rfl h10
          cases b with
          | true =>
            have F : Hid (Mid l true (pos + 1)) := hid (by
              have := hin.out
              unfold Mid at this ⊢
              rw [this, hd, gap_noted _ _ h10]; omega)
            clear C hx hg hd
            go_wp2
            refine ⟨⟨pos + 1, true, rfl, by omega, rfl, rfl, F⟩, ?_⟩
            simp only [World.iterPos_iter]
            omega
          | false =>
            by_cases hbl : l[pos] = 32 ∨ l[pos] = 9 ∨ l[pos] = 13
            · have F : Hid (Mid l false (pos + 1)) := hid (by
                have := hin.out
                unfold Mid at this ⊢
                rw [this, hd, gap_blank _ _ _ h10 hbl]; omega)
              clear C hx hg hd
              rcases hbl with h | h | h
              · have t2 : (((l[pos]).toNat : Int) == 32) = true := by rw [h]; rfl
                go_wp2
                refine ⟨⟨pos + 1, false, rfl, by omega, rfl, rfl, F⟩, ?_⟩
                simp only [World.iterPos_iter]
                omega
              · have t2 : (((l[pos]).toNat : Int) == 32) = false := by rw [h]; rfl
                have t3 : (((l[pos]).toNat : Int) == 9) = true := by rw [h]; rfl
                go_wp2
                refine ⟨⟨pos + 1, false, rfl, by omega, rfl, rfl, F⟩, ?_⟩
                simp only [World.iterPos_iter]
                omega
              · have t2 : (((l[pos]).toNat : Int) == 32) = false := by rw [h]; rfl
                have t3 : (((l[pos]).toNat : Int) == 9) = false := by rw [h]; rfl
                have t4 : (((l[pos]).toNat : Int) == 13) = true := by rw [h]; rfl
                go_wp2
                refine ⟨⟨pos + 1, false, rfl, by omega, rfl, rfl, F⟩, ?_⟩
                simp only [World.iterPos_iter]
                omega
            · have t2 : (((l[pos]).toNat : Int) == 32) = false := rune_ne rfl (fun h => hbl (Or.inl h))
              have t3 : (((l[pos]).toNat : Int) == 9) = false := rune_ne rfl (fun h => hbl (Or.inr (Or.inl h)))
              have t4 : (((l[pos]).toNat : Int) == 13) = false := rune_ne rfl (fun h => hbl (Or.inr (Or.inr h)))
              cases hq : preB [47, 47] (l.drop pos)
              · have F : Hid (gapN false l = pos) := hid (by
                  have := hin.out
                  unfold Mid at this
                  rw [hd] at hq
                  rw [this, hd, gap_stop _ _ h10 hbl hq]; omega)
                rw [hq] at C
                clear hg hd
                go_wp2_with (go_at_call 27; refine (C _).mono ?_; rintro e w' ⟨rfl, rfl⟩)
                try rw [Exit.noGoto_ret]
                go_ret
                exact ⟨ret_i64 (by rw [F.out]), B.out _⟩
              · have F : Hid (Mid l true (pos + 1)) := hid (by
                  have := hin.out
                  unfold Mid at this ⊢
                  rw [hd] at hq
                  rw [this, hd, gap_note _ _ hq]; omega)
                rw [hq] at C
                clear hg hd
                go_wp2_with (go_at_call 27; refine (C _).mono ?_; rintro e w' ⟨rfl, rfl⟩)
                refine ⟨⟨pos + 1, true, rfl, by omega, rfl, rfl, F⟩, ?_⟩
                simp only [World.iterPos_iter]
                omega
      · obtain ⟨d1, d2⟩ := decode_high (bstr l) pos hsz (by rw [hg]; omega)
        obtain ⟨d3, d4⟩ := decode_tail (bstr l) pos hsz (by rw [hg]; omega)
        have h10 : l[pos] ≠ 10 := by intro h; rw [h] at hc; exact hc (by decide)
        have hhigh : ∀ i, (hi : i < (Utf8.decode (bstr l) pos).2) → (hp : pos + i < l.length) → 128 ≤ (l[pos + i]'hp).toNat := fun i hi hp => by
          have := d4 i hi (by omega)
          rw [get_bstr l (pos + i) hp] at this
          exact this
        have t1 : (((Utf8.decode (bstr l) pos).1 : Int) == 10) = false := rune_high (by omega) d1
        have t2 : (((Utf8.decode (bstr l) pos).1 : Int) == 32) = false := rune_high (by omega) d1
        have t3 : (((Utf8.decode (bstr l) pos).1 : Int) == 9) = false := rune_high (by omega) d1
        have t4 : (((Utf8.decode (bstr l) pos).1 : Int) == 13) = false := rune_high (by omega) d1
        clear d4
        generalize Utf8.decode (bstr l) pos = dc at *
        cases b with
        | true =>
          have F : Hid (Mid l true (pos + dc.2)) := hid (by
            have := hin.out
            unfold Mid at this ⊢
            rw [this, gap_high (l.drop pos) dc.2 (by simp; omega) (fun i hi => by simpa using hhigh i hi (by omega)), List.drop_drop]
            omega)
          clear C hx hg hd hhigh
          go_wp2
          refine ⟨⟨pos + dc.2, true, rfl, by omega, rfl, rfl, F⟩, ?_⟩
          simp only [World.iterPos_iter]
          omega
        | false =>
          have hq : preB [47, 47] (l.drop pos) = false := by
            rw [hd]
            cases h : preB [47, 47] (l[pos] :: l.drop (pos + 1))
            · rfl
            · simp only [preB, beq_iff_eq] at h
              simp at h
              rw [h.1] at hc
              exact absurd (by decide) hc
          have F : Hid (gapN false l = pos) := hid (by
            have := hin.out
            unfold Mid at this
            rw [hd] at hq
            rw [this, hd, gap_stop _ _ h10 (by rintro (h | h | h) <;> rw [h] at hc <;> exact hc (by decide)) hq]; omega)
          rw [hq] at C
          clear hg hd hhigh
          go_wp2_with (go_at_call 27; refine (C _).mono ?_; rintro e w' ⟨rfl, rfl⟩)
          try rw [Exit.noGoto_ret]
          go_ret
          exact ⟨ret_i64 (by rw [F.out]), B.out _⟩
    · have hsz : ¬ pos < (bstr l).size := by omega
      have hnx := fun ty => run_next_end (P := Tryd.prog) w (bstr l) pos ty hsz
      have F : Hid (gapN false l = l.length) := hid (by
        have := hin.out
        unfold Mid at this
        rw [this, List.drop_eq_nil_of_le (by omega)]
        simp [gapN]
        omega)
      go_wp2
      try rw [Exit.noGoto_ret]
      go_ret
      exact ⟨ret_i64 (by rw [F.out]), B.out _⟩
end Go.Proofs.YtdankjkmgcclhaaDoor
