/- The contracts of the document's own answers for rows of letters and for signs, and of the law's plain. -/
import Derived.Test.YtdankjkmgcclhaaDoorRefs
import Derived.Test.YtdankjkmgcclhaaDoorReads
namespace Go.Proofs.YtdankjkmgcclhaaDoor
open Go.ChangeShapes Go.WideShapes Go.ChangeAt Go.RowKit
set_option linter.unusedVariables false

set_option maxRecDepth 100000 in
theorem plain_any (t : Tok) (w : World) : Calls Tryd.prog 12 #[.agg #[.int .i64 t.kind, .string (bstr t.text), .int .u64 t.n, .int .i64 t.line, .int .i64 t.col]] w fun e w' =>
    e = .returned (.agg #[.int .i64 t.kind, .string (bstr t.text), .int .u64 t.n, .int .i64 t.line, .int .i64 t.col]) ∧ Below w.heap.size w w' := by
  go_enter Tryd.func12, Tryd.ntmps12
  go_wp2
  try simp only [Exit.inBlock, Exit.then]
  refine bodyPost_ret (results_cell_row (P := Tryd.prog) rfl _ _ (w.heap.size + 1) _ _ _ _ rfl (by rw [← World.size_alloc w]; exact heap_alloc_new _ _) Tryd.underlying37 rfl (by kernel_rfl)) rfl ?_
  exact ⟨rfl, ((Below.refl _ _).alloc (Nat.le_refl _) _).alloc (by rw [World.size_alloc]; omega) _⟩

set_option maxRecDepth 100000 in
set_option maxHeartbeats 1000000 in
theorem refRow_any (l : List UInt8) (i : Nat) (hi : i ≤ l.length) (hl : l.length < 4611686018427387904) (w : World) : Calls Tryd.prog 34 #[.string (bstr l), .int .i64 i] w fun e w' =>
    e = .returned (.int .i64 ((i + runOf isPart (l.drop i) : Nat) : Int)) ∧ w' = w := by
  have s1 := bstr_size l
  go_enter Tryd.func34, Tryd.ntmps34
  go_wp2_with fail
  go_loop [1] (fun vi => ∃ k : Nat, vi = .int .i64 k ∧ i ≤ k ∧ k ≤ l.length ∧ Hid (∀ j, (hj : j < l.length) → i ≤ j → j < k → isPart (l[j]) = true)) (fun vi => l.length - (intOf vi).toNat)
  case atStart => exact ⟨i, rfl, Nat.le_refl _, hi, hid (fun j hj h1 h2 => by omega)⟩
  case round =>
    obtain ⟨k, rfl, hik, hk, hin⟩ := hrel
    by_cases hlt : k < l.length
    · have g1 := get_bstr l k hlt (by omega)
      have L2 : ∀ W, Calls Tryd.prog 24 #[.int .u8 ((l[k]).toNat : Int)] W fun e w' => e = .returned (.bool (isLet (l[k]))) ∧ w' = W := fun W => letter_any _ W
      have D2 : ∀ W, Calls Tryd.prog 25 #[.int .u8 ((l[k]).toNat : Int)] W fun e w' => e = .returned (.bool (isDig (l[k]))) ∧ w' = W := fun W => digit8_any _ W
      have hp := isPart_eq (l[k])
      have go : isPart (l[k]) = true → Hid (∀ j, (hj : j < l.length) → i ≤ j → j < k + 1 → isPart (l[j]) = true) := fun h => hid (fun j hj h1 h2 => by
        by_cases hjk : j < k
        · exact hin.out j hj h1 hjk
        · obtain rfl : j = k := by omega
          exact h)
      cases h1 : isLet (l[k])
      · cases h2 : isDig (l[k])
        · have F : Hid (i + runOf isPart (l.drop i) = k) := hid (by
            have hd : (l.drop i).length = l.length - i := List.length_drop
            have := run_stop isPart (l.drop i) (k - i) (by omega) (fun j hj => by
              have := hin.out (i + j) (by omega) (by omega) (by omega)
              simpa using this) (by
              have e : (l.drop i)[k - i]'(by omega) = l[k] := by simp [show i + (k - i) = k by omega]
              rw [e, hp, h1, h2]; rfl)
            omega)
          rw [h1] at L2
          rw [h2] at D2
          clear h1 h2 hp go
          go_wp2_with (first | (go_at_call 24; refine (L2 _).mono ?_; rintro e w' ⟨rfl, rfl⟩) | (go_at_call 25; refine (D2 _).mono ?_; rintro e w' ⟨rfl, rfl⟩))
          go_ret
          exact ⟨ret_i64 (by rw [F.out]), rfl⟩
        · have F2 := go (by rw [hp, h1, h2]; rfl)
          rw [h1] at L2
          rw [h2] at D2
          clear h1 h2 hp go
          go_wp2_with (first | (go_at_call 24; refine (L2 _).mono ?_; rintro e w' ⟨rfl, rfl⟩) | (go_at_call 25; refine (D2 _).mono ?_; rintro e w' ⟨rfl, rfl⟩))
          go_round
          case rel => exact ⟨k + 1, by go_num, by omega, by omega, F2⟩
          case measure => simp [intOf]; omega
      · have F2 := go (by rw [hp, h1]; rfl)
        rw [h1] at L2
        clear h1 hp go D2
        go_wp2_with (go_at_call 24; refine (L2 _).mono ?_; rintro e w' ⟨rfl, rfl⟩)
        go_round
        case rel => exact ⟨k + 1, by go_num, by omega, by omega, F2⟩
        case measure => simp [intOf]; omega
    · have F : Hid (i + runOf isPart (l.drop i) = k) := hid (by
        have hd : (l.drop i).length = l.length - i := List.length_drop
        have := run_all isPart (l.drop i) (fun j hj => by
          have := hin.out (i + j) (by omega) (by omega) (by omega)
          simpa using this)
        omega)
      go_wp2
      go_ret
      exact ⟨ret_i64 (by have := F.out; omega), rfl⟩

theorem extract_mid (l : List UInt8) (i k : Nat) : (bstr l).extract i (i + k) = bstr ((l.drop i).take k) := by
  apply WideShapes.bytes_inj
  rw [Lib.extract_data, bstr_list, bstr_list]
  congr 1
  omega

/-- The signs' cells. -/
def signC : Array Value := (signsL.map (fun x => Value.string (bstr x))).toArray

set_option maxRecDepth 100000 in
set_option maxHeartbeats 2000000 in
theorem refSign_any (l : List UInt8) (i : Nat) (hi : i ≤ l.length) (hl : l.length < 4611686018427387904) (w : World) : Calls Tryd.prog 36 #[.string (bstr l), .int .i64 i] w fun e w' =>
    e = .returned (.string (bstr ((signAt (l.drop i)).getD []))) ∧ Below w.heap.size w w' := by
  have hget0 : ∀ k, k < 20 → (w.alloc (.cells signC 9)).cell? ⟨w.heap.size, k, none⟩ = some (.string (bstr (signsL.getD k []))) := fun k hk => by
    refine cell_fresh w _ 9 _ ?_
    have h2 : k < signsL.length := hk
    simp [signC, h2]
  have hget : ∀ k, k < 20 → (w.alloc (.cells #[.string { data := #[61, 61] }, .string { data := #[33, 61] }, .string { data := #[60, 61] }, .string { data := #[123] }, .string { data := #[125] }, .string { data := #[40] }, .string { data := #[41] }, .string { data := #[91] }, .string { data := #[93] }, .string { data := #[59] }, .string { data := #[58] }, .string { data := #[44] }, .string { data := #[46] }, .string { data := #[61] }, .string { data := #[60] }, .string { data := #[43] }, .string { data := #[45] }, .string { data := #[42] }, .string { data := #[47] }, .string { data := #[37] }] 9)).cell? ⟨w.heap.size, k, none⟩ = some (.string (bstr (signsL.getD k []))) := hget0
  have bel : Hid (Below w.heap.size w (w.alloc (.cells #[.string { data := #[61, 61] }, .string { data := #[33, 61] }, .string { data := #[60, 61] }, .string { data := #[123] }, .string { data := #[125] }, .string { data := #[40] }, .string { data := #[41] }, .string { data := #[91] }, .string { data := #[93] }, .string { data := #[59] }, .string { data := #[58] }, .string { data := #[44] }, .string { data := #[46] }, .string { data := #[61] }, .string { data := #[60] }, .string { data := #[43] }, .string { data := #[45] }, .string { data := #[42] }, .string { data := #[47] }, .string { data := #[37] }] 9))) := hid ((Below.refl _ _).alloc (Nat.le_refl _) _)
  have s1 := bstr_size l
  have hlen : ∀ k, k < 20 → (signsL.getD k []).length ≤ 2 := by decide
  clear hget0
  go_enter Tryd.func36, Tryd.ntmps36
  go_wp2_with fail
  generalize w.alloc (.cells #[.string { data := #[61, 61] }, .string { data := #[33, 61] }, .string { data := #[60, 61] }, .string { data := #[123] }, .string { data := #[125] }, .string { data := #[40] }, .string { data := #[41] }, .string { data := #[91] }, .string { data := #[93] }, .string { data := #[59] }, .string { data := #[58] }, .string { data := #[44] }, .string { data := #[46] }, .string { data := #[61] }, .string { data := #[60] }, .string { data := #[43] }, .string { data := #[45] }, .string { data := #[42] }, .string { data := #[47] }, .string { data := #[37] }] 9) = W at *
  go_loop [9] (fun v => ∃ k : Nat, v = .int .i64 k ∧ k ≤ 20 ∧ Hid (∀ j, j < k → preB (signsL.getD j []) (l.drop i) = false)) (fun v => 20 - (intOf v).toNat)
  case atStart => exact ⟨0, rfl, by omega, hid (fun j hj => by omega)⟩
  case round =>
    obtain ⟨k, rfl, hk, hin⟩ := hrel
    by_cases hlt : k < 20
    · have g1 := hget k hlt
      have hx := hlen k hlt
      have s2 := bstr_size (signsL.getD k [])
      have x1 := extract_mid l i (signsL.getD k []).length
      have hdl : (l.drop i).length = l.length - i := List.length_drop
      cases hq : preB (signsL.getD k []) (l.drop i)
      · have F : Hid (∀ j, j < k + 1 → preB (signsL.getD j []) (l.drop i) = false) := hid (fun j hj => by
          by_cases hjk : j < k
          · exact hin.out j hjk
          · obtain rfl : j = k := by omega
            exact hq)
        by_cases hfit : i + (signsL.getD k []).length ≤ l.length
        · have t2 : (((l.drop i).take (signsL.getD k []).length) == signsL.getD k []) = false := hq
          have t2 : ((bstr ((l.drop i).take (signsL.getD k []).length)).toList == (bstr (signsL.getD k [])).toList) = false := by rw [toList_bstr, toList_bstr]; exact t2
          clear hget hlen hq hin
          generalize signsL.getD k [] = x at *
          go_wp2
          go_round
          case rel => exact ⟨k + 1, by go_num, by omega, F⟩
          case measure => simp [intOf]; omega
        · clear hget hlen hq hin x1
          generalize signsL.getD k [] = x at *
          go_wp2
          go_round
          case rel => exact ⟨k + 1, by go_num, by omega, F⟩
          case measure => simp [intOf]; omega
      · have F : Hid (signAt (l.drop i) = some (signsL.getD k [])) := hid (by
          have hk2 : k < signsL.length := hlt
          have hg : signsL.getD k [] = signsL[k] := by rw [List.getD_eq_getElem?_getD, List.getElem?_eq_getElem hk2]; rfl
          rw [signAt, List.find?_eq_some_iff_getElem]
          refine ⟨hq, k, hk2, hg.symm, fun j hj => ?_⟩
          have := hin.out j hj
          have hg2 : signsL.getD j [] = signsL[j]'(by omega) := by rw [List.getD_eq_getElem?_getD, List.getElem?_eq_getElem (by omega)]; rfl
          rw [hg2] at this
          simp [this])
        have hfit : i + (signsL.getD k []).length ≤ l.length := by
          obtain ⟨r, hr⟩ := (preB_iff _ _).1 hq
          have := congrArg List.length hr
          simp only [List.length_append] at this
          omega
        have t2 : (((l.drop i).take (signsL.getD k []).length) == signsL.getD k []) = true := hq
        have t3 : ((bstr ((l.drop i).take (signsL.getD k []).length)).toList == (bstr (signsL.getD k [])).toList) = true := by rw [toList_bstr, toList_bstr]; exact t2
        clear hget hlen hq hin t2
        generalize signsL.getD k [] = x at *
        go_wp2
        go_ret
        exact ⟨by rw [F.out]; rfl, bel.out⟩
    · have F : Hid (signAt (l.drop i) = none) := hid (by
        rw [signAt, List.find?_eq_none]
        intro x hx
        obtain ⟨j, hj, rfl⟩ := List.getElem_of_mem hx
        have hj20 : j < 20 := hj
        have := hin.out j (by omega)
        have hg2 : signsL.getD j [] = signsL[j] := by rw [List.getD_eq_getElem?_getD, List.getElem?_eq_getElem hj]; rfl
        rw [hg2] at this
        intro h
        exact Bool.noConfusion (this.symm.trans h))
      go_wp2
      go_ret
      exact ⟨by rw [F.out]; rfl, bel.out⟩
end Go.Proofs.YtdankjkmgcclhaaDoor
