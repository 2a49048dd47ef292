/- The contracts of the document's own answers for bits and whole numbers. -/
import Derived.Test.YtdankjkmgcclhaaDoorRefs
namespace Go.Proofs.YtdankjkmgcclhaaDoor
open Go.ChangeShapes Go.WideShapes Go.ChangeAt Go.RowKit
set_option linter.unusedVariables false

theorem hexF_snoc (a : Nat) (l : List UInt8) (c : UInt8) : hexF a (l ++ [c]) = hexF a l * 16 + hexD c := by
  induction l generalizing a with
  | nil => rfl
  | cons d l ih => simp only [List.cons_append, hexF, ih]

theorem hexD_lt (c : UInt8) (h : isHex c = true) : hexD c < 16 := by
  have := (isHex_iff c).1 h
  unfold hexD
  split
  · rename_i hd; have := (isDig_iff c).1 hd; omega
  · rename_i hd
    have : ¬ (48 ≤ c.toNat ∧ c.toNat ≤ 57) := fun h => hd ((isDig_iff c).2 h)
    omega

/-- What bits answers. -/
def bitsEnd (l : List UInt8) (v : Value) : Prop := if l.length = 16 ∧ l.all isHex = true then v = .tuple #[.int .u64 (hexF 0 l), .bool true] else ∃ x : Int, v = .tuple #[.int .u64 x, .bool false]

set_option maxRecDepth 100000 in
set_option maxHeartbeats 2000000 in
theorem refBits_any (l : List UInt8) (hl : l.length < 4611686018427387904) (w : World) : Calls Tryd.prog 35 #[.string (bstr l)] w fun e w' => ∃ v, e = .returned v ∧ bitsEnd l v ∧ w' = w := by
  have s1 := bstr_size l
  go_enter Tryd.func35, Tryd.ntmps35
  go_wp2_with fail
  go_loop [4, 5] (fun vn vi => ∃ (k : Nat) (a : Int), vn = .int .u64 a ∧ vi = .int .i64 k ∧ k ≤ l.length ∧ Hid ((∀ j, (hj : j < l.length) → j < k → isHex (l[j]) = true) ∧ (l.length = 16 → ∃ acc : Nat, a = acc ∧ acc < 16 ^ k ∧ hexF 0 (l.take k) = acc))) (fun _ vi => l.length - (intOf vi).toNat)
  case atStart => exact ⟨0, 0, rfl, rfl, by omega, hid ⟨fun j hj h => by omega, fun _ => ⟨0, rfl, by decide, rfl⟩⟩⟩
  case round =>
    obtain ⟨k, a, rfl, rfl, hk, hin⟩ := hrel
    by_cases hlt : k < l.length
    · have g1 := get_bstr l k hlt (by omega)
      have D2 : ∀ W, Calls Tryd.prog 25 #[.int .u8 ((l[k]).toNat : Int)] W fun e w' => e = .returned (.bool (isDig (l[k]))) ∧ w' = W := fun W => digit8_any _ W
      have htk : l.take (k + 1) = l.take k ++ [l[k]] := List.take_succ_eq_append_getElem hlt
      have go : isHex (l[k]) = true → ∀ b : Int, (l.length = 16 → 0 ≤ a → a < 1152921504606846976 → b = a * 16 + (hexD (l[k]) : Int)) → Hid ((∀ j, (hj : j < l.length) → j < k + 1 → isHex (l[j]) = true) ∧ (l.length = 16 → ∃ acc : Nat, b = acc ∧ acc < 16 ^ (k + 1) ∧ hexF 0 (l.take (k + 1)) = acc)) := fun hh b hb => hid (by
        refine ⟨fun j hj h1 => ?_, fun h16 => ?_⟩
        · by_cases hjk : j < k
          · exact hin.out.1 j hj hjk
          · obtain rfl : j = k := by omega
            exact hh
        · obtain ⟨acc, e1, e2, e3⟩ := hin.out.2 h16
          have hp := pow16 k (by omega)
          have hd := hexD_lt _ hh
          refine ⟨acc * 16 + hexD (l[k]), ?_, by rw [Nat.pow_succ]; omega, by rw [htk, hexF_snoc, e3]⟩
          rw [hb h16 (by omega) (by omega)]
          omega)
      have hc256 := (l[k]).toNat_lt
      cases hd : isDig (l[k])
      · have hnd : ¬ (48 ≤ (l[k]).toNat ∧ (l[k]).toNat ≤ 57) := fun h => by rw [(isDig_iff _).2 h] at hd; cases hd
        by_cases hh : 97 ≤ (l[k]).toNat ∧ (l[k]).toNat ≤ 102
        · have hx : hexD (l[k]) = (l[k]).toNat - 87 := by rw [hexD, if_neg (by rw [hd]; decide)]
          have hH := (isHex_iff (l[k])).2 (Or.inr hh)
          obtain ⟨h1, h2⟩ := hh
          have F := go hH (IntKind.u64.wrap (IntKind.u64.wrap (IntKind.u64.wrap (16 * a) + ((l[k]).toNat - 97)) + 10)) (fun _ a0 a1 => by
            rw [IntKind.wrap_u64, IntKind.wrap_u64, IntKind.wrap_u64, hx]
            omega)
          rw [hd] at D2
          clear go hd hx hH htk hin
          go_wp2_with (go_at_call 25; refine (D2 _).mono ?_; rintro e w' ⟨rfl, rfl⟩)
          refine ⟨⟨k + 1, _, rfl, by go_num, by omega, F⟩, by simp [intOf]; omega⟩
        · have F : Hid (¬ (l.length = 16 ∧ l.all isHex = true)) := hid (fun ⟨_, ha⟩ => by
            have := (isHex_iff _).1 (List.all_eq_true.1 ha _ (List.getElem_mem hlt))
            omega)
          rw [hd] at D2
          by_cases h97 : 97 ≤ (l[k]).toNat
          · have h102 : ¬ (l[k]).toNat ≤ 102 := fun h => hh ⟨h97, h⟩
            clear go hd htk hin
            go_wp2_with (go_at_call 25; refine (D2 _).mono ?_; rintro e w' ⟨rfl, rfl⟩)
            go_ret2
            exact ⟨_, rfl, by rw [bitsEnd, if_neg F.out]; exact ⟨_, rfl⟩, rfl⟩
          · clear go hd htk hin
            go_wp2_with (go_at_call 25; refine (D2 _).mono ?_; rintro e w' ⟨rfl, rfl⟩)
            go_ret2
            exact ⟨_, rfl, by rw [bitsEnd, if_neg F.out]; exact ⟨_, rfl⟩, rfl⟩
      · have hh := (isDig_iff _).1 hd
        have hx : hexD (l[k]) = (l[k]).toNat - 48 := by rw [hexD, if_pos hd]
        have hH := (isHex_iff (l[k])).2 (Or.inl hh)
        obtain ⟨h1, h2⟩ := hh
        have F := go hH (IntKind.u64.wrap (IntKind.u64.wrap (16 * a) + ((l[k]).toNat - 48))) (fun _ a0 a1 => by
          rw [IntKind.wrap_u64, IntKind.wrap_u64, hx]
          omega)
        rw [hd] at D2
        clear go hd hx hH htk hin
        go_wp2_with (go_at_call 25; refine (D2 _).mono ?_; rintro e w' ⟨rfl, rfl⟩)
        refine ⟨⟨k + 1, _, rfl, by go_num, by omega, F⟩, by simp [intOf]; omega⟩
    · have hk2 : k = l.length := by omega
      by_cases h16 : l.length = 16
      · have F : Hid (bitsEnd l (.tuple #[.int .u64 a, .bool true])) := hid (by
          obtain ⟨acc, e1, e2, e3⟩ := hin.out.2 h16
          rw [hk2, List.take_length] at e3
          have hall : l.all isHex = true := by
            rw [List.all_eq_true]
            intro x hx
            obtain ⟨j, hj, rfl⟩ := List.getElem_of_mem hx
            exact hin.out.1 j hj (by omega)
          rw [bitsEnd, if_pos ⟨h16, hall⟩, e3, e1])
        have t1 : ((l.length : Int) == 16) = true := by rw [h16]; rfl
        clear h16 hk2 hin
        go_wp2
        go_ret2
        exact ⟨_, rfl, F.out, rfl⟩
      · have t1 : ((l.length : Int) == 16) = false := by rw [beq_eq_false_iff_ne]; omega
        have F : Hid (¬ (l.length = 16 ∧ l.all isHex = true)) := hid (fun ⟨h, _⟩ => h16 h)
        clear h16 hk2 hin
        go_wp2
        go_ret2
        exact ⟨_, rfl, by rw [bitsEnd, if_neg F.out]; exact ⟨_, rfl⟩, rfl⟩

/-- What a digit is worth, and a row of digits, as a number. -/
def digV (a : Nat) (c : UInt8) : Nat := a * 10 + (c.toNat - 48)
def decV (a : Nat) (l : List UInt8) : Nat := l.foldl digV a

theorem decV_cons (a : Nat) (c : UInt8) (r : List UInt8) : decV a (c :: r) = decV (a * 10 + (c.toNat - 48)) r := by rw [decV, List.foldl_cons, digV, decV]
theorem decV_nil (a : Nat) : decV a [] = a := by rw [decV, List.foldl_nil]
theorem decV_snoc (a : Nat) (l : List UInt8) (c : UInt8) : decV a (l ++ [c]) = decV a l * 10 + (c.toNat - 48) := by
  induction l generalizing a with
  | nil => rw [List.nil_append, decV_cons, decV_nil, decV_nil]
  | cons d l ih => rw [List.cons_append, decV_cons, decV_cons, ih]
theorem decV_low (a : Nat) (l : List UInt8) : a * 10 ^ l.length ≤ decV a l := by
  induction l generalizing a with
  | nil => rw [decV_nil]; simp
  | cons c l ih =>
    have := ih (a * 10 + (c.toNat - 48))
    rw [decV_cons, List.length_cons, Nat.pow_succ]
    have h1 : a * (10 ^ l.length * 10) = (a * 10) * 10 ^ l.length := by rw [Nat.mul_comm (10 ^ l.length) 10, Nat.mul_assoc]
    have h2 : (a * 10) * 10 ^ l.length ≤ (a * 10 + (c.toNat - 48)) * 10 ^ l.length := Nat.mul_le_mul_right _ (by omega)
    omega
theorem decV_ge (a : Nat) (l : List UInt8) : a ≤ decV a l := by
  induction l generalizing a with
  | nil => rw [decV_nil]; exact Nat.le_refl _
  | cons c l ih =>
    have := ih (a * 10 + (c.toNat - 48))
    rw [decV_cons]
    omega
theorem decF_cons (a : Nat) (c : UInt8) (r : List UInt8) : decF a (c :: r) = if isDig c = true then (if a * 10 + (c.toNat - 48) < 9223372036854775808 then decF (a * 10 + (c.toNat - 48)) r else none) else none := by rw [decF]
theorem decF_all (a : Nat) (l : List UInt8) (ha : a < 9223372036854775808) (h : l.all isDig = true) : decF a l = if decV a l < 9223372036854775808 then some (decV a l) else none := by
  induction l generalizing a with
  | nil => rw [decV_nil, if_pos ha, decF]
  | cons c l ih =>
    simp only [List.all_cons, Bool.and_eq_true] at h
    rw [decF_cons, decV_cons, if_pos h.1]
    by_cases hv : a * 10 + (c.toNat - 48) < 9223372036854775808
    · rw [if_pos hv, ih _ hv h.2]
    · have := decV_ge (a * 10 + (c.toNat - 48)) l
      rw [if_neg hv, if_neg (by omega)]
theorem decF_not (a : Nat) (l : List UInt8) (h : l.all isDig = false) : decF a l = none := by
  induction l generalizing a with
  | nil => simp at h
  | cons c l ih =>
    simp only [List.all_cons, Bool.and_eq_false_iff] at h
    rw [decF_cons]
    by_cases hc : isDig c = true
    · rw [if_pos hc]
      rcases h with h | h
      · rw [h] at hc; cases hc
      · split
        · exact ih _ h
        · rfl
    · rw [if_neg hc]

theorem int_not (l : List UInt8) (h : l.all isDig = false) : intN l = none := by rw [intN, decF_not 0 l h]
theorem int_zero (c : UInt8) (r : List UInt8) (hc : c = 48) (hr : r ≠ []) : intN (c :: r) = none := by
  unfold intN
  cases decF 0 (c :: r) with
  | none => rfl
  | some n => simp [hc, hr]
theorem int_long (c : UInt8) (r : List UInt8) (hl : 19 < (c :: r).length) : intN (c :: r) = none := by
  cases ha : (c :: r).all isDig
  · exact int_not _ ha
  · by_cases hc : c = 48
    · exact int_zero c r hc (by rintro rfl; simp at hl)
    · have hd : isDig c = true := by simp only [List.all_cons, Bool.and_eq_true] at ha; exact ha.1
      have hd := (isDig_iff c).1 hd
      have h48 : c.toNat ≠ 48 := fun e => hc (UInt8.toNat_inj.1 (by rw [e]; rfl))
      have hlow := decV_low (c.toNat - 48) r
      have hp : (10 : Nat) ^ 19 ≤ 10 ^ r.length := Nat.pow_le_pow_right (by decide) (by simp at hl; omega)
      have hm : 1 * 10 ^ r.length ≤ (c.toNat - 48) * 10 ^ r.length := Nat.mul_le_mul_right _ (by omega)
      have e19 : (10 : Nat) ^ 19 = 10000000000000000000 := by decide
      have e : decV 0 (c :: r) = decV (c.toNat - 48) r := by rw [decV_cons, Nat.zero_mul, Nat.zero_add]
      rw [intN, decF_all 0 _ (by decide) ha, e, if_neg (by omega)]
theorem int_short (l : List UInt8) (ha : l.all isDig = true) (hz : ¬ (l.head? = some 48 ∧ l ≠ [48])) : intN l = if decV 0 l < 9223372036854775808 then some (decV 0 l) else none := by
  rw [intN, decF_all 0 l (by decide) ha]
  split
  · rename_i h
    split at h
    · cases h
    · rename_i hn; rw [if_neg hn]
  · rename_i n h
    split at h
    · rename_i hn
      rw [if_neg hz, if_pos hn]
      exact h.symm
    · cases h

/-- What whole answers. -/
def wholeEnd (l : List UInt8) (v : Value) : Prop := match intN l with
  | some n => v = .tuple #[.int .u64 n, .bool true]
  | none => ∃ x : Int, v = .tuple #[.int .u64 x, .bool false]

theorem pow10 (k : Nat) (h : k < 19) : (10 : Nat) ^ k ≤ 1000000000000000000 := by
  have : (10 : Nat) ^ k ≤ 10 ^ 18 := Nat.pow_le_pow_right (by decide) (by omega)
  have e : (10 : Nat) ^ 18 = 1000000000000000000 := by decide
  omega

set_option maxRecDepth 100000 in
set_option maxHeartbeats 2000000 in
theorem refWhole_any (c : UInt8) (r : List UInt8) (hl : (c :: r).length < 4611686018427387904) (w : World) : Calls Tryd.prog 37 #[.string (bstr (c :: r))] w fun e w' => ∃ v, e = .returned v ∧ wholeEnd (c :: r) v ∧ w' = w := by
  have s1 := bstr_size (c :: r)
  have s2 : 0 < (bstr (c :: r)).size := by rw [s1]; simp
  have g0 : (bstr (c :: r))[0]'s2 = c := get_bstr (c :: r) 0 (by simp) s2
  have cl : (c :: r).length = r.length + 1 := rfl
  by_cases hlong : 19 < (c :: r).length
  · have F : Hid (intN (c :: r) = none) := hid (int_long c r hlong)
    clear g0
    go_enter Tryd.func37, Tryd.ntmps37
    go_wp2
    go_ret2
    exact ⟨_, rfl, by rw [wholeEnd, F.out]; exact ⟨_, rfl⟩, rfl⟩
  · by_cases hz : 1 < (c :: r).length ∧ c = 48
    · obtain ⟨h1, h2⟩ := hz
      have F : Hid (intN (c :: r) = none) := hid (int_zero c r h2 (by rintro rfl; simp at h1))
      have t1 : ((c.toNat : Int) == 48) = true := by rw [h2]; rfl
      clear h2
      go_enter Tryd.func37, Tryd.ntmps37
      go_wp2
      go_ret2
      exact ⟨_, rfl, by rw [wholeEnd, F.out]; exact ⟨_, rfl⟩, rfl⟩
    · have hz2 : ¬ ((c :: r).head? = some 48 ∧ (c :: r) ≠ [48]) := by
        rintro ⟨a1, a2⟩
        simp at a1
        subst a1
        refine hz ⟨?_, rfl⟩
        cases r with
        | nil => exact absurd rfl a2
        | cons d r => simp
      have hz2 := hid hz2
      have T : (1 < (c :: r).length ∧ ((c.toNat : Int) == 48) = false) ∨ ¬ 1 < (c :: r).length := by
        by_cases h1 : 1 < (c :: r).length
        · left
          exact ⟨h1, rune_ne rfl (fun e => hz ⟨h1, e⟩)⟩
        · exact Or.inr h1
      clear hz
      have main : ∀ l : List UInt8, l = c :: r → l.length ≤ 19 → True := fun _ _ _ => trivial
      rcases T with ⟨h1, t1⟩ | h1
      all_goals (
        go_enter Tryd.func37, Tryd.ntmps37
        go_wp2_with fail
        clear g0
        generalize hgl : c :: r = l at *
        have hgl2 := hid hgl
        go_loop [4, 5] (fun vn vi => ∃ (k : Nat) (a : Int), vn = .int .u64 a ∧ vi = .int .i64 k ∧ k ≤ l.length ∧ Hid ((∀ j, (hj : j < l.length) → j < k → isDig (l[j]) = true) ∧ ∃ acc : Nat, a = acc ∧ acc < 10 ^ k ∧ decV 0 (l.take k) = acc)) (fun _ vi => l.length - (intOf vi).toNat)
        case atStart => exact ⟨0, 0, rfl, rfl, by omega, hid ⟨fun j hj h => by omega, 0, rfl, by decide, rfl⟩⟩
        case round =>
          obtain ⟨k, a, rfl, rfl, hk, hin⟩ := hrel
          by_cases hlt : k < l.length
          · have g1 := get_bstr l k hlt (by omega)
            have D2 : ∀ W, Calls Tryd.prog 25 #[.int .u8 ((l[k]).toNat : Int)] W fun e w' => e = .returned (.bool (isDig (l[k]))) ∧ w' = W := fun W => digit8_any _ W
            have hc256 := (l[k]).toNat_lt
            cases hd : isDig (l[k])
            · have F : Hid (intN l = none) := hid (int_not l (by
                cases ha : l.all isDig
                · rfl
                · have := List.all_eq_true.1 ha _ (List.getElem_mem hlt)
                  rw [hd] at this; cases this))
              rw [hd] at D2
              clear hd hin hgl
              go_wp2_with (go_at_call 25; refine (D2 _).mono ?_; rintro e w' ⟨rfl, rfl⟩)
              go_ret2
              exact ⟨_, rfl, by rw [hgl2.out, wholeEnd, F.out]; exact ⟨_, rfl⟩, rfl⟩
            · have hh := (isDig_iff _).1 hd
              have htk : l.take (k + 1) = l.take k ++ [l[k]] := List.take_succ_eq_append_getElem hlt
              have F : Hid ((∀ j, (hj : j < l.length) → j < k + 1 → isDig (l[j]) = true) ∧ ∃ acc : Nat, IntKind.u64.wrap (IntKind.u64.wrap (10 * a) + ((l[k]).toNat - 48)) = acc ∧ acc < 10 ^ (k + 1) ∧ decV 0 (l.take (k + 1)) = acc) := hid (by
                refine ⟨fun j hj h1 => ?_, ?_⟩
                · by_cases hjk : j < k
                  · exact hin.out.1 j hj hjk
                  · obtain rfl : j = k := by omega
                    exact hd
                · obtain ⟨acc, e1, e2, e3⟩ := hin.out.2
                  have hp := pow10 k (by omega)
                  refine ⟨acc * 10 + ((l[k]).toNat - 48), ?_, by rw [Nat.pow_succ]; omega, by rw [htk, decV_snoc, e3]⟩
                  rw [IntKind.wrap_u64, IntKind.wrap_u64]
                  omega)
              obtain ⟨h48, h57⟩ := hh
              rw [hd] at D2
              clear hd hin htk hgl
              go_wp2_with (go_at_call 25; refine (D2 _).mono ?_; rintro e w' ⟨rfl, rfl⟩)
              refine ⟨⟨k + 1, _, rfl, by go_num, by omega, F⟩, by simp [intOf]; omega⟩
          · have hk2 : k = l.length := by omega
            have hall : l.all isDig = true := by
              rw [List.all_eq_true]
              intro x hx
              obtain ⟨j, hj, rfl⟩ := List.getElem_of_mem hx
              exact hin.out.1 j hj (by omega)
            obtain ⟨acc, e1, e2, e3⟩ := hin.out.2
            rw [hk2, List.take_length] at e3
            have hI := int_short l hall hz2.out
            rw [e3] at hI
            by_cases hbig : acc < 9223372036854775808
            · have F : Hid (wholeEnd l (.tuple #[.int .u64 a, .bool true])) := hid (by rw [wholeEnd, hI, if_pos hbig, e1])
              have t2 : a < 9223372036854775808 := by omega
              clear hI e1 e2 e3 hin hk2 hgl
              go_wp2
              go_ret2
              exact ⟨_, rfl, by rw [hgl2.out]; simpa [t2] using F.out, rfl⟩
            · have F : Hid (wholeEnd l (.tuple #[.int .u64 a, .bool false])) := hid (by rw [wholeEnd, hI, if_neg hbig]; exact ⟨_, rfl⟩)
              have t2 : ¬ a < 9223372036854775808 := by omega
              clear hI e1 e2 e3 hin hk2 hgl
              go_wp2
              go_ret2
              exact ⟨_, rfl, by rw [hgl2.out]; simpa [t2] using F.out, rfl⟩)
end Go.Proofs.YtdankjkmgcclhaaDoor
