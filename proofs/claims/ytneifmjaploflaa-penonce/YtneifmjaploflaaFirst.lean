/- The contract of pen's function that reads a number's bytes. -/
import Derived.Test.YtneifmjaploflaaRows
import Derived.Test.YtneifmjaploflaaMath
import Derived.WalkKit
import Derived.ProofKit
import Derived.OpenShut
import Derived.WalkSpells
import Derived.WalkLawsBesides
import Derived.Laws.BitsAllLaws
namespace Go.Proofs.Ytneifmjaploflaa
open Go.ChangeShapes Go.WideShapes Go.ChangeAt Go.RowKit
open PenMath
set_option linter.unusedVariables false

/-- The number that 'first' answers, and of how many bytes it is. -/
def firN (l : List UInt8) : Nat := match rd l with | some n => n | none => 0
def firK (l : List UInt8) : Nat := match rd l with | some n => (natB n).length | none => 0

theorem ret2_int {a b c d : Int} (h : a = c) (h' : b = d) : Ending.returned (.tuple #[.int .u64 a, .int .i64 b]) = .returned (.tuple #[.int .u64 c, .int .i64 d]) := by rw [h, h']

theorem take_snoc (s : ByteArray) (k : Nat) (h : k < s.size) : s.data.toList.take (k + 1) = s.data.toList.take k ++ [s[k]] := by
  rw [List.take_succ_eq_append_getElem (by simpa using h)]; rfl

theorem parted (s : ByteArray) (k : Nat) (h : k < s.size) : s.data.toList = s.data.toList.take k ++ s[k] :: s.data.toList.drop (k + 1) := by
  conv => lhs; rw [← List.take_append_drop k s.data.toList, List.drop_eq_getElem_cons (by simpa using h)]
  rfl

theorem take_len (s : ByteArray) (k : Nat) (h : k ≤ s.size) : (s.data.toList.take k).length = k := by
  rw [List.length_take]
  have : s.data.toList.length = s.size := by simp
  omega

theorem fir_none (l : List UInt8) (h : rd l = none) : firN l = 0 ∧ firK l = 0 := by simp [firN, firK, h]
theorem fir_some (l : List UInt8) (n : Nat) (h : rd l = some n) : firN l = n ∧ firK l = (natB n).length := by simp [firN, firK, h]

theorem wrap_u64 (x : Int) (h0 : 0 ≤ x) (h1 : x < 18446744073709551616) : IntKind.u64.wrap x = x := by
  simp only [IntKind.wrap, IntKind.bits, IntKind.signed]
  simp
  omega

theorem or_val (p : List UInt8) (b : UInt8) (k : Nat) (hk : p.length = k) (h : k ≤ 8 ∨ (k = 9 ∧ b.toNat ≤ 1)) :
    bits .or .u64 (val p : Int) (IntKind.u64.wrap ((b.toNat : Int) % 128 * 2 ^ (7 * k))) = (val (p ++ [b]) : Int) := by
  have e : (128 : Nat) ^ k = 2 ^ (7 * k) := by rw [Nat.pow_mul]
  have hv : val p < 2 ^ (7 * k) := by have := val_lt p; rw [hk, e] at this; exact this
  have hb2 := b.toNat_lt
  have hle : 2 ^ (7 * k) ≤ 2 ^ 63 := Nat.pow_le_pow_right (by decide) (by omega)
  have h63 : (2 : Nat) ^ 63 = 9223372036854775808 := by decide
  have hc : b.toNat % 128 * 2 ^ (7 * k) < 18446744073709551616 := by
    rcases h with h | ⟨rfl, h⟩
    · have h1 : 2 ^ (7 * k) ≤ 2 ^ 56 := Nat.pow_le_pow_right (by decide) (by omega)
      have h2 : b.toNat % 128 * 2 ^ (7 * k) ≤ 127 * 2 ^ 56 := Nat.mul_le_mul (by omega) h1
      have h56 : (2 : Nat) ^ 56 = 72057594037927936 := by decide
      omega
    · have h2 : b.toNat % 128 * 2 ^ (7 * 9) ≤ 1 * 2 ^ 63 := Nat.mul_le_mul (by omega) (Nat.le_refl _)
      omega
  have ec : ((b.toNat : Int) % 128 * 2 ^ (7 * k)) = ((b.toNat % 128 * 2 ^ (7 * k) : Nat) : Int) := by
    rw [Int.natCast_mul, Int.natCast_pow]; rfl
  rw [ec, wrap_u64 _ (by omega) (by omega), u64_or_nat _ _ (by omega) hc, val_app, hk, e]
  have h3 := Nat.shiftLeft_add_eq_or_of_lt hv (b.toNat % 128)
  rw [Nat.shiftLeft_eq] at h3
  rw [Nat.or_comm, ← h3]
  simp only [val, Nat.mul_zero, Nat.add_zero]
  rw [Nat.mul_comm, Nat.add_comm]

theorem goes_snoc (s : ByteArray) (k : Nat) (h : k < s.size) (hg : Goes (s.data.toList.take k)) (hb : 128 ≤ s[k].toNat) : Goes (s.data.toList.take (k + 1)) := by
  rw [take_snoc s k h]
  intro x hx
  rcases List.mem_append.1 hx with hx | hx
  · exact hg x hx
  · simp at hx; subst hx; exact hb

set_option maxRecDepth 100000 in
set_option maxHeartbeats 400000 in
theorem first_any (s : ByteArray) (w : World) (hs : s.size ≤ maxLen) :
    Calls Try.prog 27 #[.string s] w fun e w' => e = .returned (.tuple #[.int .u64 (firN s.data.toList), .int .i64 (firK s.data.toList)]) ∧ w' = w := by
  unfold maxLen at hs
  go_enter Try.func27, Try.ntmps27
  go_wp2
  go_loop [4, 9] (fun n i => ∃ k : Nat, k ≤ s.size ∧ k ≤ 9 ∧ Hid (Goes (s.data.toList.take k)) ∧ i = .int .i64 k ∧ n = .int .u64 (val (s.data.toList.take k))) (fun _ i => s.size - (intOf i).toNat)
  case atStart => exact ⟨0, Nat.zero_le _, by omega, fun _ h => by simp at h, rfl, rfl⟩
  case round =>
    obtain ⟨k, hk, hk9, hg, rfl, rfl⟩ := hrel
    by_cases hlt : k < s.size
    · have hl : Hid ((s.data.toList.take k).length = k) := take_len s k hk
      have hp : Hid (s.data.toList = s.data.toList.take k ++ s[k] :: s.data.toList.drop (k + 1)) := parted s k hlt
      have hb256 := s[k].toNat_lt
      by_cases h9 : k = 9 ∧ 1 < s[k].toNat
      · have t1 : ((k : Int) == 9) = true := by simp; omega
        have t2 : (1 : Int) < (s[k].toNat : Int) := by omega
        have hr : Hid (rd s.data.toList = none) := by rw [Hid, hp.out]; exact rd_nine _ _ _ hg.out (by rw [hl.out]; exact h9.1) h9.2
        clear h9 hp
        go_wp2
        go_ret2
        exact ⟨ret2_int (by rw [(fir_none _ hr.out).1]; rfl) (by rw [(fir_none _ hr.out).2]; rfl), rfl⟩
      by_cases hc : 128 ≤ s[k].toNat
      · have t1 : ((k : Int) == 9) = false := by simp; omega
        have t2 : (128 : Int) ≤ (s[k].toNat : Int) := by omega
        have hk8 : k ≤ 8 := by omega
        have hv := or_val (s.data.toList.take k) s[k] k hl.out (.inl hk8)
        have hv2 : Hid (bits .or .u64 (val (s.data.toList.take k) : Int) (IntKind.u64.wrap ((s[k].toNat : Int) % 128 * 2 ^ (7 * k))) = (val (s.data.toList.take (k + 1)) : Int)) := by rw [take_snoc s k hlt]; exact hv
        clear hv h9 hp
        go_wp2
        go_round
        case rel => exact ⟨k + 1, by omega, by omega, goes_snoc s k hlt hg.out hc, by go_num, by rw [hv2.out]⟩
        case measure => simp [intOf]; omega
      by_cases hz : s[k].toNat = 0 ∧ 0 < k
      · have t3 : ((s[k].toNat : Int) == 0) = true := by simp; omega
        have t2 : (s[k].toNat : Int) < 128 := by omega
        have t4 : (s[k].toNat : Int) ≤ 1 := by omega
        have t5 : (0 : Int) < (k : Int) := by omega
        have hr : Hid (rd s.data.toList = none) := by rw [Hid, hp.out]; exact rd_nought _ _ _ hg.out (by intro e; have := hl.out; rw [e] at this; simp at this; omega) hz.1
        clear hz h9 hc hp
        by_cases h9 : k = 9
        · have t1 : ((k : Int) == 9) = true := by simp; omega
          clear h9
          go_wp2
          go_ret2
          exact ⟨ret2_int (by rw [(fir_none _ hr.out).1]; rfl) (by rw [(fir_none _ hr.out).2]; rfl), rfl⟩
        · have t1 : ((k : Int) == 9) = false := by simp; omega
          clear h9
          go_wp2
          go_ret2
          exact ⟨ret2_int (by rw [(fir_none _ hr.out).1]; rfl) (by rw [(fir_none _ hr.out).2]; rfl), rfl⟩
      · have t2 : (s[k].toNat : Int) < 128 := by omega
        have hr := rd_ends (s.data.toList.take k) s[k] (s.data.toList.drop (k + 1)) hg.out (by omega) (by
          by_cases e : k = 0
          · left; subst e; simp
          · right; omega) (by rw [hl.out]; exact hk9) (by rw [hl.out]; omega)
        rw [← hp.out, hl.out] at hr
        have hv := or_val (s.data.toList.take k) s[k] k hl.out (by omega)
        obtain ⟨f1, f2⟩ := fir_some _ _ hr.1
        have g1 : Hid (bits .or .u64 (val (s.data.toList.take k) : Int) (IntKind.u64.wrap ((s[k].toNat : Int) % 128 * 2 ^ (7 * k))) = (firN s.data.toList : Int)) := by rw [f1]; exact hv
        have g2 : Hid (((k : Int) + 1) = (firK s.data.toList : Int)) := by rw [f2, hr.2.1]; exact rfl
        clear hr hv f1 f2 hp
        by_cases h1 : k = 9
        · have t1 : ((k : Int) == 9) = true := by simp; omega
          have t4 : (s[k].toNat : Int) ≤ 1 := by omega
          have t3 : ((s[k].toNat : Int) == 0) = false := by simp; omega
          clear h1 h9 hz hc
          go_wp2
          go_ret2
          exact ⟨ret2_int g1.out g2.out, rfl⟩
        · have t1 : ((k : Int) == 9) = false := by simp; omega
          clear h1 h9
          by_cases h0 : s[k].toNat = 0
          · have t3 : ((s[k].toNat : Int) == 0) = true := by simp; omega
            have t5 : ¬ (0 : Int) < (k : Int) := by omega
            clear h0 hz hc
            go_wp2
            go_ret2
            exact ⟨ret2_int g1.out g2.out, rfl⟩
          · have t3 : ((s[k].toNat : Int) == 0) = false := by simp; omega
            clear h0 hz hc
            go_wp2
            go_ret2
            exact ⟨ret2_int g1.out g2.out, rfl⟩
    · have hr : Hid (rd s.data.toList = none) := by
        have : s.data.toList.take k = s.data.toList := List.take_of_length_le (by simp; omega)
        rw [this] at hg
        exact rd_none _ hg.out
      go_wp2
      go_ret2
      exact ⟨ret2_int (by rw [(fir_none _ hr.out).1]; rfl) (by rw [(fir_none _ hr.out).2]; rfl), rfl⟩

end Go.Proofs.Ytneifmjaploflaa
