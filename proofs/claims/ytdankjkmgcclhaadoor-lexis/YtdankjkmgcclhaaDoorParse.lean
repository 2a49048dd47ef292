/- The contract of the library's ParseUint: of a whole number of 63 bits, and of sixteen digits of four bits. -/
import Derived.Test.YtdankjkmgcclhaaDoorErrs
import Derived.Test.YtdankjkmgcclhaaDoorStrs
import Derived.Lib.ConvBytes
import Derived.Lib.AtoiAllMem
import Derived.Laws.Strings3
import Derived.BigCall
import Derived.BigGuard
namespace Go.Proofs.YtdankjkmgcclhaaDoor
open Go.ChangeShapes Go.WideShapes Go.ChangeAt Go.RowKit
set_option linter.unusedVariables false

/-- A numeral's value, of 63 bits. -/
def decF : Nat → List UInt8 → Option Nat
  | a, [] => some a
  | a, c :: r => if isDig c = true then (if a * 10 + (c.toNat - 48) < 9223372036854775808 then decF (a * 10 + (c.toNat - 48)) r else none) else none

/-- What a digit of four bits is worth. -/
def hexD (c : UInt8) : Nat := if isDig c = true then c.toNat - 48 else c.toNat - 87
def hexF : Nat → List UInt8 → Nat
  | a, [] => a
  | a, c :: r => hexF (a * 16 + hexD c) r

theorem isDig_iff (c : UInt8) : isDig c = true ↔ 48 ≤ c.toNat ∧ c.toNat ≤ 57 := by
  simp only [isDig, digR, Bool.and_eq_true, decide_eq_true_eq]
  omega

set_option maxRecDepth 100000 in
theorem lower_any (x : Int) (w : World) : Calls Tryd.prog 55 #[.int .u8 x] w fun e w' => e = .returned (.int .u8 (bits .or .u8 x 32)) ∧ w' = w := by
  go_enter Tryd.func55, Tryd.ntmps55
  go_wp2
  go_ret
  exact ⟨rfl, rfl⟩

/-- What the reading ends in: a number and no error, or an error of its own. -/
def numEnd (o : Option Nat) (v : Value) : Prop := match o with
  | some n => v = .tuple #[.int .u64 n, .nilIface]
  | none => ∃ (x k : Int), (k = 1 ∨ k = 2) ∧ v = .tuple #[.int .u64 x, .iface 68 (.int .i64 k)]

set_option maxHeartbeats 8000000 in
set_option maxRecDepth 100000 in
theorem parse10_in (l : List UInt8) (h0 : l ≠ []) (hl : l.length < 4611686018427387904) (w : World) :
    Calls Tryd.prog 49 #[.string (bstr l), .int .i64 10, .int .i64 63] w fun e w' => ∃ v, e = .returned v ∧ numEnd (decF 0 l) v ∧ Below w.heap.size w w' := by
  have hne : ((bstr l).toList == []) = false := by rw [toList_bstr]; cases l; exact absurd rfl h0; rfl
  have s1 := bstr_size l
  have hcv := Lib.run_convert_string_bytes (P := Tryd.prog) w 9 70 5 (bstr l) (u := .string) Tryd.underlying9 Tryd.underlying70 Tryd.underlying5
  have hB : ∀ j, j < l.length → (Lib.bytesWorld w 5 (bstr l)).cell? ⟨w.heap.size, j, none⟩ = some (.int .u8 (l.getD j 0).toNat) := fun j hj => by
    have := Lib.bytesWorld_cell w 5 (bstr l) j (by omega)
    rwa [bstr_list] at this
  have hbel : Hid (Below w.heap.size w (Lib.bytesWorld w 5 (bstr l))) := hid (Lib.bytesWorld_below w 5 (bstr l))
  generalize Lib.bytesWorld w 5 (bstr l) = W1 at hcv hB hbel
  have hmv : IntKind.u64.wrap (IntKind.u64.wrap 9223372036854775808 - 1) = 9223372036854775807 := by
    rw [IntKind.wrap_u64, IntKind.wrap_u64]
    decide
  go_enter Tryd.func49, Tryd.ntmps49
  go_wp2
  go_loop [12, 13, 101] (fun vu vn vi => ∃ (k : Nat) (a : Int), vu = .bool false ∧ vn = .int .u64 a ∧ vi = .int .i64 k ∧ k ≤ l.length ∧ Hid (∃ acc : Nat, a = acc ∧ acc < 9223372036854775808 ∧ decF 0 l = decF acc (l.drop k))) (fun _ _ vi => l.length - (intOf vi).toNat)
  case atStart => exact ⟨0, 0, rfl, rfl, rfl, by omega, hid ⟨0, rfl, by omega, rfl⟩⟩
  case round =>
    obtain ⟨k, a, rfl, rfl, rfl, hk, hh⟩ := hrel
    obtain ⟨acc, ha, hacc, hdec⟩ := hh.out
    clear hh
    have a0 : 0 ≤ a := by omega
    have a1 : a < 9223372036854775808 := by omega
    by_cases hkn : k < l.length
    · have hc := hB k hkn
      have hd : l.drop k = l[k] :: l.drop (k + 1) := List.drop_eq_getElem_cons hkn
      have hget : l.getD k 0 = l[k] := by simp [List.getD, List.getElem?_eq_getElem hkn]
      rw [hd] at hdec
      rw [hget] at hc
      generalize l[k] = c at hc hdec
      have hc256 : c.toNat < 256 := c.toNat_lt
      clear hB hd hget
      by_cases hdig : 48 ≤ c.toNat ∧ c.toNat ≤ 57
      · have hD := (isDig_iff c).2 hdig
        obtain ⟨d0, d1⟩ := hdig
        by_cases hov : acc * 10 + (c.toNat - 48) < 9223372036854775808
        · have HN : Hid (∃ acc' : Nat, a * 10 + ((c.toNat : Int) - 48) = acc' ∧ acc' < 9223372036854775808 ∧ decF 0 l = decF acc' (l.drop (k + 1))) := hid ⟨acc * 10 + (c.toNat - 48), by omega, hov, by rw [hdec]; simp [decF, hD, hov]⟩
          have i1 : a < 1844674407370955162 := by omega
          have i2 : a * 10 + ((c.toNat : Int) - 48) < 9223372036854775808 := by omega
          clear hacc hdec ha hD hov
          go_wp2
          refine ⟨⟨k + 1, a * 10 + ((c.toNat : Int) - 48), rfl, (by first | rfl | (congr 1; omega)), (by first | rfl | (congr 1; omega)), by omega, HN⟩, by simp [intOf]; omega⟩
        · have F : Hid (decF 0 l = none) := hid (by rw [hdec]; simp [decF, hD, hov])
          by_cases hcut : 1844674407370955162 ≤ a
          · clear hacc hdec ha hD hov
            go_wp2
            go_ret2
            exact ⟨_, rfl, by rw [F.out]; exact ⟨_, 1, Or.inl rfl, rfl⟩, hbel.out⟩
          · have i2 : 9223372036854775808 ≤ a * 10 + ((c.toNat : Int) - 48) := by omega
            have i3 : a < 1844674407370955162 := by omega
            clear hacc hdec ha hD hov hcut
            by_cases hbig : a * 10 + ((c.toNat : Int) - 48) < 18446744073709551616
            · have hwr : IntKind.u64.wrap (a * 10 + ((c.toNat : Int) - 48)) = a * 10 + ((c.toNat : Int) - 48) := by
                rw [IntKind.wrap_u64]
                omega
              go_wp2
              all_goals go_ret2
              all_goals exact ⟨_, rfl, by rw [F.out]; exact ⟨_, 1, Or.inl rfl, rfl⟩, hbel.out⟩
            · have hwr : IntKind.u64.wrap (a * 10 + ((c.toNat : Int) - 48)) = a * 10 + ((c.toNat : Int) - 48) - 18446744073709551616 := by
                rw [IntKind.wrap_u64]
                omega
              go_wp2
              all_goals go_ret2
              all_goals exact ⟨_, rfl, by rw [F.out]; exact ⟨_, 1, Or.inl rfl, rfl⟩, hbel.out⟩
      · have F : Hid (decF 0 l = none) := hid (by rw [hdec, decF, if_neg (fun h => hdig ((isDig_iff c).1 h))])
        clear hacc hdec ha
        have v0 := bits_lo_u8 .or (c.toNat : Int) 32
        have v1 := bits_hi_u8 .or (c.toNat : Int) 32
        have u0 := bits_lo_u8 .or 95 32
        have u1 := bits_hi_u8 .or 95 32
        go_wp2_with (go_at_call 55; refine (lower_any _ _).mono ?_; rintro e w' ⟨rfl, rfl⟩)
        all_goals go_ret2
        all_goals exact ⟨_, rfl, by rw [F.out]; exact ⟨_, 2, Or.inr rfl, rfl⟩, hbel.out⟩
    · have F : Hid (decF 0 l = some acc) := hid (by rw [hdec, List.drop_eq_nil_of_le (by omega)]; rfl)
      have hk2 : k = l.length := by omega
      subst hk2
      subst ha
      clear hdec hacc a0 a1
      go_wp2
      go_ret2
      exact ⟨_, rfl, by rw [F.out]; rfl, hbel.out⟩
end Go.Proofs.YtdankjkmgcclhaaDoor
