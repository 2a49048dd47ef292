/- The contract of the library's ParseUint: of sixteen digits of four bits. -/
import Derived.Test.YtdankjkmgcclhaaDoorParse
namespace Go.Proofs.YtdankjkmgcclhaaDoor
open Go.ChangeShapes Go.WideShapes Go.ChangeAt Go.RowKit
set_option linter.unusedVariables false

theorem isHex_iff (c : UInt8) : isHex c = true ↔ (48 ≤ c.toNat ∧ c.toNat ≤ 57) ∨ (97 ≤ c.toNat ∧ c.toNat ≤ 102) := by
  simp only [isHex, hexR, digR, Bool.and_eq_true, Bool.or_eq_true, decide_eq_true_eq]
  omega

theorem pow16 (k : Nat) (h : k < 16) : (16 : Nat) ^ k ≤ 1152921504606846976 := by
  have : (16 : Nat) ^ k ≤ 16 ^ 15 := Nat.pow_le_pow_right (by decide) (by omega)
  have e : (16 : Nat) ^ 15 = 1152921504606846976 := by decide
  omega

set_option maxHeartbeats 8000000 in
set_option maxRecDepth 100000 in
theorem parse16_in (l : List UInt8) (hl : l.length = 16) (hx : ∀ i, (hi : i < l.length) → isHex (l[i]) = true) (w : World) :
    Calls Tryd.prog 49 #[.string (bstr l), .int .i64 16, .int .i64 64] w fun e w' => e = .returned (.tuple #[.int .u64 (hexF 0 l), .nilIface]) ∧ Below w.heap.size w w' := by
  have hne : ((bstr l).toList == []) = false := by rw [toList_bstr]; cases l; simp at hl; rfl
  have s1 := bstr_size l
  have hcv := Lib.run_convert_string_bytes (P := Tryd.prog) w 9 70 5 (bstr l) (u := .string) Tryd.underlying9 Tryd.underlying70 Tryd.underlying5
  have hB : ∀ j, j < l.length → (Lib.bytesWorld w 5 (bstr l)).cell? ⟨w.heap.size, j, none⟩ = some (.int .u8 (l.getD j 0).toNat) := fun j hj => by
    have := Lib.bytesWorld_cell w 5 (bstr l) j (by omega)
    rwa [bstr_list] at this
  have hbel : Hid (Below w.heap.size w (Lib.bytesWorld w 5 (bstr l))) := hid (Lib.bytesWorld_below w 5 (bstr l))
  generalize Lib.bytesWorld w 5 (bstr l) = W1 at hcv hB hbel
  have hmv : IntKind.u64.wrap (IntKind.u64.wrap 18446744073709551616 - 1) = 18446744073709551615 := by
    rw [IntKind.wrap_u64, IntKind.wrap_u64]
    decide
  go_enter Tryd.func49, Tryd.ntmps49
  go_wp2
  go_loop [12, 13, 101] (fun vu vn vi => ∃ (k : Nat) (a : Int), vu = .bool false ∧ vn = .int .u64 a ∧ vi = .int .i64 k ∧ k ≤ l.length ∧ Hid (∃ acc : Nat, a = acc ∧ acc < 16 ^ k ∧ hexF 0 l = hexF acc (l.drop k))) (fun _ _ vi => l.length - (intOf vi).toNat)
  case atStart => exact ⟨0, 0, rfl, rfl, rfl, by omega, hid ⟨0, rfl, by decide, rfl⟩⟩
  case round =>
    obtain ⟨k, a, rfl, rfl, rfl, hk, hh⟩ := hrel
    obtain ⟨acc, ha, hacc, hdec⟩ := hh.out
    clear hh
    by_cases hkn : k < l.length
    · have hc := hB k hkn
      have hd : l.drop k = l[k] :: l.drop (k + 1) := List.drop_eq_getElem_cons hkn
      have hget : l.getD k 0 = l[k] := by simp [List.getD, List.getElem?_eq_getElem hkn]
      have hH := hx k hkn
      have hp := pow16 k (by omega)
      have a0 : 0 ≤ a := by omega
      have a1 : a < 1152921504606846976 := by omega
      rw [hd] at hdec
      rw [hget] at hc
      generalize l[k] = c at hc hdec hH
      have hc256 : c.toNat < 256 := c.toNat_lt
      clear hB hd hget hx
      have hH := (isHex_iff c).1 hH
      have step : ∀ d : Nat, hexD c = d → d < 16 → Hid (∃ acc' : Nat, a * 16 + (d : Int) = acc' ∧ acc' < 16 ^ (k + 1) ∧ hexF 0 l = hexF acc' (l.drop (k + 1))) := fun d hd hd16 =>
        hid ⟨acc * 16 + d, by omega, by rw [Nat.pow_succ]; omega, by rw [hdec, hexF, hd]⟩
      rcases hH with ⟨d0, d1⟩ | ⟨d0, d1⟩
      · have HN := step (c.toNat - 48) (by simp [hexD, (isDig_iff c).2 ⟨d0, d1⟩]) (by omega)
        have i2 : a * 16 + ((c.toNat : Int) - 48) < 18446744073709551616 := by omega
        clear hacc hdec ha step hp
        go_wp2
        refine ⟨⟨k + 1, _, rfl, rfl, (by first | rfl | (congr 1; omega)), by omega, ?_⟩, by simp [intOf]; omega⟩
        obtain ⟨acc', e1, e2, e3⟩ := HN.out
        exact hid ⟨acc', by omega, e2, e3⟩
      · have hn : ¬ isDig c = true := fun h => by have := (isDig_iff c).1 h; omega
        have hv : hexD c = c.toNat - 87 := by simp [hexD, hn]
        clear hn
        rcases (by omega : c.toNat = 97 ∨ c.toNat = 98 ∨ c.toNat = 99 ∨ c.toNat = 100 ∨ c.toNat = 101 ∨ c.toNat = 102) with e | e | e | e | e | e
        all_goals (
          have HN := step (c.toNat - 87) hv (by omega)
          rw [e] at HN hc
          simp only [Nat.reduceSub] at HN
          clear hacc hdec ha step hp hv e d0 d1 hc256
          have i2 : a * 16 + 15 < 18446744073709551616 := by omega
          have o1 : bits .or .u8 97 32 = 97 := by decide
          have o2 : bits .or .u8 98 32 = 98 := by decide
          have o3 : bits .or .u8 99 32 = 99 := by decide
          have o4 : bits .or .u8 100 32 = 100 := by decide
          have o5 : bits .or .u8 101 32 = 101 := by decide
          have o6 : bits .or .u8 102 32 = 102 := by decide
          go_wp2_with (go_at_call 55; refine (lower_any _ _).mono ?_; rintro e w' ⟨rfl, rfl⟩)
          refine ⟨⟨k + 1, _, rfl, rfl, (by first | rfl | (congr 1; omega)), by omega, ?_⟩, by simp [intOf]; omega⟩
          obtain ⟨acc', e1, e2, e3⟩ := HN.out
          exact hid ⟨acc', by omega, e2, e3⟩)
    · have F : Hid (hexF 0 l = acc) := hid (by rw [hdec, List.drop_eq_nil_of_le (by omega)]; rfl)
      have hk2 : k = l.length := by omega
      subst hk2
      subst ha
      clear hdec hacc
      go_wp2
      go_ret2
      exact ⟨by rw [F.out]; rfl, hbel.out⟩

set_option maxHeartbeats 4000000 in
set_option maxRecDepth 100000 in
theorem parse16_any (l : List UInt8) (hl : l.length = 16) (hx : ∀ i, (hi : i < l.length) → isHex (l[i]) = true) (w : World) :
    Calls Tryd.prog 46 #[.string (bstr l), .int .i64 16, .int .i64 64] w fun e w' => e = .returned (.tuple #[.int .u64 (hexF 0 l), .nilIface]) ∧ Below w.heap.size w w' := by
  have C := fun W => parse16_in l hl hx W
  generalize hexF 0 l = n at C
  go_enter Tryd.func46, Tryd.ntmps46
  go_wp2_with (go_at_call 49; refine (C _).mono ?_; rintro e w' ⟨rfl, hb⟩)
  go_ret2
  exact ⟨rfl, by assumption⟩

/-- What the public reading ends in. -/
def numOut (o : Option Nat) (v : Value) : Prop := match o with
  | some n => v = .tuple #[.int .u64 n, .nilIface]
  | none => ∃ (x : Int) (t : TypeId) (p : Value), v = .tuple #[.int .u64 x, .iface t p]

set_option maxHeartbeats 4000000 in
set_option maxRecDepth 100000 in
theorem parse10_any (l : List UInt8) (h0 : l ≠ []) (hl : l.length < 281474976710656) (w : World) (h : Errs w) :
    Calls Tryd.prog 46 #[.string (bstr l), .int .i64 10, .int .i64 63] w fun e w' => ∃ v, e = .returned v ∧ numOut (decF 0 l) v ∧ Below w.heap.size w w' := by
  have C := fun W => parse10_in l h0 (by omega) W
  have s1 := bstr_size l
  cases hd : decF 0 l with
  | some n =>
    rw [hd] at C
    go_enter Tryd.func46, Tryd.ntmps46
    go_wp2_with fail
    refine (C _).mono ?_
    rintro e w' ⟨v, rfl, hv, hb⟩
    subst hv
    go_wp2
    go_ret2
    exact ⟨_, rfl, rfl, hb⟩
  | none =>
    rw [hd] at C
    go_enter Tryd.func46, Tryd.ntmps46
    go_wp2_with fail
    refine (C _).mono ?_
    rintro e w' ⟨v, rfl, ⟨x, k, hk, hv⟩, hb⟩
    subst hv
    have T := fun fn => toError_any fn (bstr l) (by omega) 10 63 k hk w' (h.kept hb)
    go_wp2_with fail
    refine (T _).mono ?_
    rintro e w2 ⟨p, rfl, hb2⟩
    go_wp2
    go_ret2
    exact ⟨_, rfl, ⟨x, 71, _, rfl⟩, Below.over hb hb2⟩
end Go.Proofs.YtdankjkmgcclhaaDoor
