/- The contracts of the document's own answers for what is read. -/
import Derived.Test.YtneifmjaploflaaRefs
namespace Go.Proofs.Ytneifmjaploflaa
open Go.ChangeShapes Go.WideShapes Go.ChangeAt Go.RowKit
open PenMath
set_option linter.unusedVariables false

theorem rd_dec (l : List UInt8) (u : Nat) (h : rd l = some u) : dec l = some u ∧ u < 18446744073709551616 := by
  unfold rd at h
  cases hd : dec l with
  | none => rw [hd] at h; cases h
  | some m =>
    rw [hd] at h
    simp only at h
    by_cases hm : m < 18446744073709551616
    · rw [if_pos hm] at h; simp only [Option.some.injEq] at h; subst h; exact ⟨rfl, hm⟩
    · rw [if_neg hm] at h; cases h

theorem read_yes (p : List UInt8) (b : UInt8) (r : List UInt8) (v : Nat) (hv : v < 18446744073709551616) (h : natB v = p ++ [b]) : rd (p ++ b :: r) = some v ∧ (natB v).length = p.length + 1 := by
  refine ⟨?_, by rw [h]; simp⟩
  have e : p ++ b :: r = natB v ++ r := by rw [h]; simp
  rw [e]
  exact rd_natB v r hv

theorem read_no (p : List UInt8) (b : UInt8) (r : List UInt8) (hp : Goes p) (hb : b.toNat < 128) (h : natB (val (p ++ [b]) % 18446744073709551616) ≠ p ++ [b]) : rd (p ++ b :: r) = none := by
  cases hr : rd (p ++ b :: r) with
  | none => rfl
  | some u =>
    obtain ⟨hd, hu⟩ := rd_dec _ _ hr
    obtain ⟨e1, e2⟩ := dec_end p b r u hp hb hd
    rw [← e2, Nat.mod_eq_of_lt hu] at h
    exact absurd e1 h

theorem val_drop (l : List UInt8) (m k : Nat) (hm : m < k) (hk : k ≤ l.length) : val ((l.take k).drop m) = (l[m]'(by omega)).toNat % 128 + 128 * val ((l.take k).drop (m + 1)) := by
  rw [List.drop_eq_getElem_cons (by rw [List.length_take]; omega)]
  simp only [val, List.getElem_take]

theorem wrap_step (a b : Nat) : IntKind.u64.wrap (IntKind.u64.wrap (128 * (a : Int)) + (b : Int) % 128) = (((128 * a + b % 128) % 18446744073709551616 : Nat) : Int) := by
  simp [IntKind.wrap, IntKind.bits, IntKind.signed]
  try omega

/-- What the bytes from m on to k are worth, of 64 bits. -/
def vq (s : ByteArray) (k m : Nat) : Nat := val ((s.data.toList.take k).drop m) % 18446744073709551616
theorem vq_lt (s : ByteArray) (k m : Nat) : vq s k m < 18446744073709551616 := Nat.mod_lt _ (by decide)
theorem vq_top (s : ByteArray) (k : Nat) : vq s k k = 0 := by
  unfold vq
  rw [List.drop_of_length_le (by rw [List.length_take]; omega)]
  rfl
theorem vq_next (s : ByteArray) (k m : Nat) (hm : m < k) (hk : k ≤ s.size) : vq s k m = (128 * vq s k (m + 1) + s[m].toNat % 128) % 18446744073709551616 := by
  unfold vq
  rw [val_drop s.data.toList m k hm (by simpa using hk)]
  have e : s.data.toList[m]'(by simp; omega) = s[m] := rfl
  rw [e]
  omega

set_option maxRecDepth 100000 in
set_option maxHeartbeats 1000000 in
theorem read_any (s : ByteArray) (w : World) (hs : s.size ≤ 1000000) :
    Calls Try.prog 28 #[.string s] w fun e w' => e = .returned (.tuple #[.int .u64 (firN s.data.toList), .int .i64 (firK s.data.toList)]) ∧ Below w.heap.size w w' := by
  go_enter Try.func28, Try.ntmps28
  go_wp2
  go_loop [4] (fun t => ∃ k : Nat, k ≤ s.size ∧ k ≤ 10 ∧ Hid (Goes (s.data.toList.take k)) ∧ t = .int .i64 (k + 1)) (fun t => s.size + 2 - (intOf t).toNat)
  case atStart => exact ⟨0, Nat.zero_le _, by omega, fun _ h => by simp at h, rfl⟩
  case round =>
    obtain ⟨k, hk, hk10, hg, rfl⟩ := hrel
    by_cases hin : k < 10 ∧ k < s.size
    · obtain ⟨hk9, hlt⟩ := hin
      have hl : Hid ((s.data.toList.take k).length = k) := take_len s k hk
      have hp : Hid (s.data.toList = s.data.toList.take k ++ s[k] :: s.data.toList.drop (k + 1)) := parted s k hlt
      have hb256 := s[k].toNat_lt
      by_cases hc : 128 ≤ s[k].toNat
      · have hgs : Hid (Goes (s.data.toList.take (k + 1))) := goes_snoc s k hlt hg.out hc
        go_wp2
        go_round
        case rel => exact ⟨k + 1, by omega, by omega, hgs, by go_num⟩
        case measure => simp [intOf]; omega
      · have hc' : (s[k].toNat : Int) < 128 := by omega
        go_wp2_with fail
        go_loop [5, 6] (fun n i => ∃ m : Nat, m ≤ k + 1 ∧ i = .int .i64 ((m : Int) - 1) ∧ n = .int .u64 (vq s (k + 1) m)) (fun _ i => (intOf i + 1).toNat)
        case atStart => exact ⟨k + 1, Nat.le_refl _, by go_num, by rw [vq_top]; rfl⟩
        case round =>
          obtain ⟨m, hm, rfl, rfl⟩ := hrel
          have hq := vq_lt s (k + 1) m
          by_cases hm0 : m = 0
          · subst hm0
            have ev : vq s (k + 1) 0 = val (s.data.toList.take k ++ [s[k]]) % 18446744073709551616 := by rw [vq, List.drop_zero, take_snoc s k hlt]
            have ex : Hid ((s.extract 0 (k + 1)).toList = s.data.toList.take k ++ [s[k]]) := by rw [Hid, Lib.extract_toList, List.drop_zero, Nat.sub_zero, take_snoc s k hlt]
            have hy := read_yes (s.data.toList.take k) s[k] (s.data.toList.drop (k + 1)) (vq s (k + 1) 0) hq
            have hn := read_no (s.data.toList.take k) s[k] (s.data.toList.drop (k + 1)) hg.out (by omega)
            rw [← hp.out] at hy hn
            rw [← ev] at hn
            rw [hl.out] at hy
            generalize vq s (k + 1) 0 = v at *
            have C : Hid (∀ W, Calls Try.prog 23 #[.int .u64 v] W fun r w' => r = .returned (.string (bstr (natB v))) ∧ Below W.heap.size W w') := refNat_any v hq
            by_cases he : natB v = s.data.toList.take k ++ [s[k]]
            · have t1 : ((bstr (natB v)).toList == (s.extract 0 (k + 1)).toList) = true := by rw [ex.out, toList_bstr, he]; simp
              obtain ⟨f1, f2⟩ := fir_some _ _ (hy he).1
              have F1 : Hid ((v : Int) = (firN s.data.toList : Int)) := by rw [f1]; rfl
              have F2 : Hid (((k : Int) + 1) = (firK s.data.toList : Int)) := by rw [f2, (hy he).2]; rfl
              clear ev ex hy hn he f1 f2 hp hl hg
              go_wp2_with fail
              go_region_with (go_at_call 23; refine (C.out _).mono ?_; rintro r w' ⟨rfl, hb⟩)
              all_goals
                clear C
                go_wp2
                go_ret2
                exact ⟨ret2_int F1.out F2.out, (Below.refl w.heap.size w).drew.trans hb⟩
            · have t1 : ((bstr (natB v)).toList == (s.extract 0 (k + 1)).toList) = false := by rw [ex.out, toList_bstr]; simpa using he
              have hr : Hid (rd s.data.toList = none) := hn he
              clear ev ex hy hn he hp hl hg
              go_wp2_with fail
              go_region_with (go_at_call 23; refine (C.out _).mono ?_; rintro r w' ⟨rfl, hb⟩)
              all_goals
                clear C
                go_wp2
                go_ret2
                exact ⟨ret2_int (by rw [(fir_none _ hr.out).1]; rfl) (by rw [(fir_none _ hr.out).2]; rfl), (Below.refl w.heap.size w).drew.trans hb⟩
          · obtain ⟨q, rfl⟩ : ∃ q, m = q + 1 := ⟨m - 1, by omega⟩
            have hqs : q < s.size := by omega
            have hb2 := s[q].toNat_lt
            have VN : Hid _ := vq_next s (k + 1) q (by omega) (by omega)
            go_wp2
            go_round
            case rel => exact ⟨q, by omega, rfl, by rw [VN.out, wrap_step]⟩
            case measure => simp [intOf]
    · have hr : Hid (rd s.data.toList = none) := by
        by_cases h10 : k = 10
        · rw [Hid, ← List.take_append_drop k s.data.toList]
          exact rd_long _ _ hg.out (by rw [take_len s k hk]; omega)
        · have : s.data.toList.take k = s.data.toList := List.take_of_length_le (by simp; omega)
          rw [this] at hg
          exact rd_none _ hg.out
      by_cases h10 : k = 10
      · have t1 : (10 : Int) < (k : Int) + 1 := by omega
        go_wp2
        go_ret2
        exact ⟨ret2_int (by rw [(fir_none _ hr.out).1]; rfl) (by rw [(fir_none _ hr.out).2]; rfl), Below.refl _ _⟩
      · have t1 : (k : Int) + 1 ≤ 10 := by omega
        have t2 : (s.size : Int) < (k : Int) + 1 := by omega
        go_wp2
        go_ret2
        exact ⟨ret2_int (by rw [(fir_none _ hr.out).1]; rfl) (by rw [(fir_none _ hr.out).2]; rfl), Below.refl _ _⟩

end Go.Proofs.Ytneifmjaploflaa
