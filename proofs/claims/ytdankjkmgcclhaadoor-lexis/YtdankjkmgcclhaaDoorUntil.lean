/- The contracts of lex's functions that go over letters until one ends the run. -/
import Derived.Test.YtdankjkmgcclhaaDoorBase

namespace Go.Proofs.YtdankjkmgcclhaaDoor
open Go.ChangeShapes Go.WideShapes Go.ChangeAt Go.RowKit
set_option linter.unusedVariables false

theorem hid {p : Prop} (h : p) : Hid p := h

/-- How many bytes stand ahead of the first one that isn't such. -/
def runOf (p : UInt8 → Bool) (l : List UInt8) : Nat := (l.takeWhile p).length

theorem runOf_le (p : UInt8 → Bool) (l : List UInt8) : runOf p l ≤ l.length := by
  unfold runOf
  induction l with
  | nil => simp
  | cons c l ih => simp only [List.takeWhile_cons]; split <;> simp <;> omega

theorem run_stop (p : UInt8 → Bool) (l : List UInt8) (k : Nat) (hk : k < l.length) (h : ∀ i, (hi : i < k) → p (l[i]'(by omega)) = true) (hs : p (l[k]) = false) : runOf p l = k := by
  induction l generalizing k with
  | nil => simp at hk
  | cons c l ih =>
    cases k with
    | zero => simp at hs; simp [runOf, hs]
    | succ k =>
      have h0 := h 0 (by omega)
      simp only [List.getElem_cons_zero] at h0
      have := ih k (by simpa using hk) (fun i hi => by have := h (i + 1) (by omega); simpa using this) (by simpa using hs)
      simp only [runOf] at this
      simp [runOf, h0, this]

theorem run_all (p : UInt8 → Bool) (l : List UInt8) (h : ∀ i, (hi : i < l.length) → p (l[i]) = true) : runOf p l = l.length := by
  induction l with
  | nil => simp [runOf]
  | cons c l ih =>
    have h0 := h 0 (by simp)
    simp only [List.getElem_cons_zero] at h0
    have := ih (fun i hi => by have := h (i + 1) (by simpa using hi); simpa using this)
    simp only [runOf] at this
    simp [runOf, h0, this]

/-- Whether a letter ends a run, of runes: such that letters of more than a byte do. -/
structure Ends (e : Int → Bool) (p : UInt8 → Bool) : Prop where
  ascii : ∀ c : UInt8, c.toNat < 128 → e c.toNat = !p c
  high : ∀ c : UInt8, 128 ≤ c.toNat → p c = false
  rune : ∀ r : Int, 128 ≤ r → e r = true

/-- The bytes that may stand in a row, of a number, of bits. -/
def isPart (c : UInt8) : Bool := partR c.toNat
def isDig (c : UInt8) : Bool := digR c.toNat
def isHex (c : UInt8) : Bool := hexR c.toNat

theorem partR_high (r : Int) (h : 128 ≤ r) : partR r = false := by
  simp only [partR, digR, Bool.or_eq_false_iff, Bool.and_eq_false_iff, decide_eq_false_iff_not]
  omega
theorem hexR_high (r : Int) (h : 128 ≤ r) : hexR r = false := by
  simp only [hexR, digR, Bool.or_eq_false_iff, Bool.and_eq_false_iff, decide_eq_false_iff_not]
  omega

theorem ends_part : Ends (fun r => !partR r) isPart := ⟨fun c _ => rfl, fun c h => partR_high _ (by omega), fun r h => by simp [partR_high r h]⟩
theorem ends_hex : Ends (fun r => !hexR r) isHex := ⟨fun c _ => rfl, fun c h => hexR_high _ (by omega), fun r h => by simp [hexR_high r h]⟩

set_option maxRecDepth 100000 in
set_option maxHeartbeats 1000000 in
theorem until_row (s : ByteArray) (w : World) :
    Calls Tryd.prog 38 #[.string s, .func (.func 47) #[] #[]] w fun e w' => e = .returned (.int .i64 (runOf isPart s.data.toList)) ∧ Below w.heap.size w w' := by
  have hlen : s.data.toList.length = s.size := by simp
  go_enter Tryd.func38, Tryd.ntmps38
  go_wp2_with fail
  go_loopw [5] (fun _ wr => ∃ pos : Nat, wr = w.iter s pos ∧ pos ≤ s.size ∧ Hid (∀ i, (hi : i < s.data.toList.length) → i < pos → isPart (s.data.toList[i]) = true)) (fun _ wr => s.size - wr.iterPos w.heap.size)
  case atStart => exact ⟨0, rfl, Nat.zero_le _, hid (fun i hi h => by omega)⟩
  case round =>
    obtain ⟨pos, rfl, hp, hin⟩ := hrel
    have B : Hid (∀ p, Below w.heap.size w (w.iter s p)) := hid (fun p => (Below.refl _ _).alloc (Nat.le_refl _) _)
    by_cases hlt : pos < s.size
    · have hnx := fun ty => run_next_any (P := Tryd.prog) w s pos ty hlt
      have hg : s.data.toList[pos]'(by omega) = s[pos]'hlt := rfl
      by_cases hc : (s[pos]'hlt).toNat < 128
      · rw [decode_ascii s pos hlt hc] at hnx
        have C := fun p => row1_any ((s[pos]'hlt).toNat) (w.iter s p) 
        have E := ends_part.ascii (s[pos]'hlt) hc
        generalize (!partR ((s[pos]'hlt).toNat : Int)) = b0 at C E
        subst E
        cases hq : isPart (s[pos]'hlt)
        · have F : Hid (runOf isPart s.data.toList = pos) := hid (run_stop _ _ pos (by omega) (fun i hi => hin.out i (by omega) hi) (by rw [hg]; exact hq))
          rw [hq] at C
          simp only [Bool.not_false] at C
          go_wp2_with (go_at_call 47; refine (C _).mono ?_; rintro e w' ⟨rfl, rfl⟩)
          go_ret
          exact ⟨ret_i64 (by rw [F.out]), B.out _⟩
        · have F : Hid (∀ i, (hi : i < s.data.toList.length) → i < pos + 1 → isPart (s.data.toList[i]) = true) := hid (fun i hi h => by
            by_cases hip : i < pos
            · exact hin.out i hi hip
            · obtain rfl : i = pos := by omega
              rw [hg]; exact hq)
          rw [hq] at C
          simp only [Bool.not_true] at C
          go_wp2_with (go_at_call 47; refine (C _).mono ?_; rintro e w' ⟨rfl, rfl⟩)
          refine ⟨⟨pos + 1, rfl, by omega, F⟩, ?_⟩
          simp only [World.iterPos_iter]
          omega
      · obtain ⟨d1, d2⟩ := decode_high s pos hlt (by omega)
        have C := fun p => row1_any ((Utf8.decode s pos).1) (w.iter s p) 
        have E := ends_part.rune ((Utf8.decode s pos).1) (by omega)
        rw [E] at C
        have F : Hid (runOf isPart s.data.toList = pos) := hid (run_stop _ _ pos (by omega) (fun i hi => hin.out i (by omega) hi) (by rw [hg]; exact ends_part.high _ (by omega)))
        clear E d1
        generalize Utf8.decode s pos = dc at hnx C d2
        go_wp2_with (go_at_call 47; refine (C _).mono ?_; rintro e w' ⟨rfl, rfl⟩)
        go_ret
        exact ⟨ret_i64 (by rw [F.out]), B.out _⟩
    · have hnx := fun ty => run_next_end (P := Tryd.prog) w s pos ty hlt
      have F : Hid (runOf isPart s.data.toList = s.size) := hid ((run_all _ _ (fun i hi => hin.out i hi (by omega))).trans hlen)
      go_wp2
      go_ret
      exact ⟨ret_i64 (by rw [F.out]), B.out _⟩

theorem cell_iter (w : World) (s : ByteArray) (p b : Nat) {v : Value} (h : w.cell? ⟨b, 0, none⟩ = some v) : (w.iter s p).cell? ⟨b, 0, none⟩ = w.cell? ⟨b, 0, none⟩ := by
  have hb : b < w.heap.size := by
    by_cases hb : b < w.heap.size
    · exact hb
    · simp [World.cell?, show w.heap[b]? = none from Array.getElem?_eq_none (by omega)] at h
  exact ((Below.refl w.heap.size w).alloc (Nat.le_refl _) _).cell (p := ⟨b, 0, none⟩) hb

set_option maxRecDepth 100000 in
theorem all1_part (b : Nat) (r : Int) (w : World) (hb : w.cell? ⟨b, 0, none⟩ = some (.func (.func 23) #[] #[])) : Calls Tryd.prog 39 #[.int .i32 r, .pointer (some ⟨b, 0, none⟩)] w fun e w' => e = .returned (.bool (!partR r)) ∧ w' = w := by
  have D := fun W => part_any r W
  generalize partR r = d at D
  go_enter Tryd.func39, Tryd.ntmps39
  go_wp2_with (go_at_call 23; refine (D _).mono ?_; rintro e w' ⟨rfl, rfl⟩)
  go_ret
  exact ⟨rfl, rfl⟩

set_option maxRecDepth 100000 in
theorem all1_hex (b : Nat) (r : Int) (w : World) (hb : w.cell? ⟨b, 0, none⟩ = some (.func (.func 45) #[] #[])) : Calls Tryd.prog 39 #[.int .i32 r, .pointer (some ⟨b, 0, none⟩)] w fun e w' => e = .returned (.bool (!hexR r)) ∧ w' = w := by
  have D := fun W => bits_any r W
  generalize hexR r = d at D
  go_enter Tryd.func39, Tryd.ntmps39
  go_wp2_with (go_at_call 45; refine (D _).mono ?_; rintro e w' ⟨rfl, rfl⟩)
  go_ret
  exact ⟨rfl, rfl⟩

set_option maxRecDepth 100000 in
set_option maxHeartbeats 1000000 in
theorem until_part (s : ByteArray) (b : Nat) (w : World) (hb : w.cell? ⟨b, 0, none⟩ = some (.func (.func 23) #[] #[])) :
    Calls Tryd.prog 38 #[.string s, .func (.func 39) #[] #[.pointer (some ⟨b, 0, none⟩)]] w fun e w' => e = .returned (.int .i64 (runOf isPart s.data.toList)) ∧ Below w.heap.size w w' := by
  have hlen : s.data.toList.length = s.size := by simp
  go_enter Tryd.func38, Tryd.ntmps38
  go_wp2_with fail
  go_loopw [5] (fun _ wr => ∃ pos : Nat, wr = w.iter s pos ∧ pos ≤ s.size ∧ Hid (∀ i, (hi : i < s.data.toList.length) → i < pos → isPart (s.data.toList[i]) = true)) (fun _ wr => s.size - wr.iterPos w.heap.size)
  case atStart => exact ⟨0, rfl, Nat.zero_le _, hid (fun i hi h => by omega)⟩
  case round =>
    obtain ⟨pos, rfl, hp, hin⟩ := hrel
    have B : Hid (∀ p, Below w.heap.size w (w.iter s p)) := hid (fun p => (Below.refl _ _).alloc (Nat.le_refl _) _)
    by_cases hlt : pos < s.size
    · have hnx := fun ty => run_next_any (P := Tryd.prog) w s pos ty hlt
      have hg : s.data.toList[pos]'(by omega) = s[pos]'hlt := rfl
      by_cases hc : (s[pos]'hlt).toNat < 128
      · rw [decode_ascii s pos hlt hc] at hnx
        have C := fun p => all1_part b ((s[pos]'hlt).toNat) (w.iter s p) (by rw [cell_iter _ _ _ _ hb]; exact hb)
        have E := ends_part.ascii (s[pos]'hlt) hc
        generalize (!partR ((s[pos]'hlt).toNat : Int)) = b0 at C E
        subst E
        cases hq : isPart (s[pos]'hlt)
        · have F : Hid (runOf isPart s.data.toList = pos) := hid (run_stop _ _ pos (by omega) (fun i hi => hin.out i (by omega) hi) (by rw [hg]; exact hq))
          rw [hq] at C
          simp only [Bool.not_false] at C
          go_wp2_with (go_at_call 39; refine (C _).mono ?_; rintro e w' ⟨rfl, rfl⟩)
          go_ret
          exact ⟨ret_i64 (by rw [F.out]), B.out _⟩
        · have F : Hid (∀ i, (hi : i < s.data.toList.length) → i < pos + 1 → isPart (s.data.toList[i]) = true) := hid (fun i hi h => by
            by_cases hip : i < pos
            · exact hin.out i hi hip
            · obtain rfl : i = pos := by omega
              rw [hg]; exact hq)
          rw [hq] at C
          simp only [Bool.not_true] at C
          go_wp2_with (go_at_call 39; refine (C _).mono ?_; rintro e w' ⟨rfl, rfl⟩)
          refine ⟨⟨pos + 1, rfl, by omega, F⟩, ?_⟩
          simp only [World.iterPos_iter]
          omega
      · obtain ⟨d1, d2⟩ := decode_high s pos hlt (by omega)
        have C := fun p => all1_part b ((Utf8.decode s pos).1) (w.iter s p) (by rw [cell_iter _ _ _ _ hb]; exact hb)
        have E := ends_part.rune ((Utf8.decode s pos).1) (by omega)
        rw [E] at C
        have F : Hid (runOf isPart s.data.toList = pos) := hid (run_stop _ _ pos (by omega) (fun i hi => hin.out i (by omega) hi) (by rw [hg]; exact ends_part.high _ (by omega)))
        clear E d1
        generalize Utf8.decode s pos = dc at hnx C d2
        go_wp2_with (go_at_call 39; refine (C _).mono ?_; rintro e w' ⟨rfl, rfl⟩)
        go_ret
        exact ⟨ret_i64 (by rw [F.out]), B.out _⟩
    · have hnx := fun ty => run_next_end (P := Tryd.prog) w s pos ty hlt
      have F : Hid (runOf isPart s.data.toList = s.size) := hid ((run_all _ _ (fun i hi => hin.out i hi (by omega))).trans hlen)
      go_wp2
      go_ret
      exact ⟨ret_i64 (by rw [F.out]), B.out _⟩

set_option maxRecDepth 100000 in
set_option maxHeartbeats 1000000 in
theorem until_hex (s : ByteArray) (b : Nat) (w : World) (hb : w.cell? ⟨b, 0, none⟩ = some (.func (.func 45) #[] #[])) :
    Calls Tryd.prog 38 #[.string s, .func (.func 39) #[] #[.pointer (some ⟨b, 0, none⟩)]] w fun e w' => e = .returned (.int .i64 (runOf isHex s.data.toList)) ∧ Below w.heap.size w w' := by
  have hlen : s.data.toList.length = s.size := by simp
  go_enter Tryd.func38, Tryd.ntmps38
  go_wp2_with fail
  go_loopw [5] (fun _ wr => ∃ pos : Nat, wr = w.iter s pos ∧ pos ≤ s.size ∧ Hid (∀ i, (hi : i < s.data.toList.length) → i < pos → isHex (s.data.toList[i]) = true)) (fun _ wr => s.size - wr.iterPos w.heap.size)
  case atStart => exact ⟨0, rfl, Nat.zero_le _, hid (fun i hi h => by omega)⟩
  case round =>
    obtain ⟨pos, rfl, hp, hin⟩ := hrel
    have B : Hid (∀ p, Below w.heap.size w (w.iter s p)) := hid (fun p => (Below.refl _ _).alloc (Nat.le_refl _) _)
    by_cases hlt : pos < s.size
    · have hnx := fun ty => run_next_any (P := Tryd.prog) w s pos ty hlt
      have hg : s.data.toList[pos]'(by omega) = s[pos]'hlt := rfl
      by_cases hc : (s[pos]'hlt).toNat < 128
      · rw [decode_ascii s pos hlt hc] at hnx
        have C := fun p => all1_hex b ((s[pos]'hlt).toNat) (w.iter s p) (by rw [cell_iter _ _ _ _ hb]; exact hb)
        have E := ends_hex.ascii (s[pos]'hlt) hc
        generalize (!hexR ((s[pos]'hlt).toNat : Int)) = b0 at C E
        subst E
        cases hq : isHex (s[pos]'hlt)
        · have F : Hid (runOf isHex s.data.toList = pos) := hid (run_stop _ _ pos (by omega) (fun i hi => hin.out i (by omega) hi) (by rw [hg]; exact hq))
          rw [hq] at C
          simp only [Bool.not_false] at C
          go_wp2_with (go_at_call 39; refine (C _).mono ?_; rintro e w' ⟨rfl, rfl⟩)
          go_ret
          exact ⟨ret_i64 (by rw [F.out]), B.out _⟩
        · have F : Hid (∀ i, (hi : i < s.data.toList.length) → i < pos + 1 → isHex (s.data.toList[i]) = true) := hid (fun i hi h => by
            by_cases hip : i < pos
            · exact hin.out i hi hip
            · obtain rfl : i = pos := by omega
              rw [hg]; exact hq)
          rw [hq] at C
          simp only [Bool.not_true] at C
          go_wp2_with (go_at_call 39; refine (C _).mono ?_; rintro e w' ⟨rfl, rfl⟩)
          refine ⟨⟨pos + 1, rfl, by omega, F⟩, ?_⟩
          simp only [World.iterPos_iter]
          omega
      · obtain ⟨d1, d2⟩ := decode_high s pos hlt (by omega)
        have C := fun p => all1_hex b ((Utf8.decode s pos).1) (w.iter s p) (by rw [cell_iter _ _ _ _ hb]; exact hb)
        have E := ends_hex.rune ((Utf8.decode s pos).1) (by omega)
        rw [E] at C
        have F : Hid (runOf isHex s.data.toList = pos) := hid (run_stop _ _ pos (by omega) (fun i hi => hin.out i (by omega) hi) (by rw [hg]; exact ends_hex.high _ (by omega)))
        clear E d1
        generalize Utf8.decode s pos = dc at hnx C d2
        go_wp2_with (go_at_call 39; refine (C _).mono ?_; rintro e w' ⟨rfl, rfl⟩)
        go_ret
        exact ⟨ret_i64 (by rw [F.out]), B.out _⟩
    · have hnx := fun ty => run_next_end (P := Tryd.prog) w s pos ty hlt
      have F : Hid (runOf isHex s.data.toList = s.size) := hid ((run_all _ _ (fun i hi => hin.out i hi (by omega))).trans hlen)
      go_wp2
      go_ret
      exact ⟨ret_i64 (by rw [F.out]), B.out _⟩

end Go.Proofs.YtdankjkmgcclhaaDoor
