/- Names, plainly, the contract of lex's IsName, and those of the document's own answers for letters, words and names. -/
import Derived.Test.YtdankjkmgcclhaaDoorAlive
namespace Go.Proofs.YtdankjkmgcclhaaDoor
open Go.ChangeShapes Go.WideShapes Go.ChangeAt Go.RowKit
set_option linter.unusedVariables false

/-- A letter of a name that is no digit. -/
def letR (r : Int) : Bool := (decide (97 ≤ r) && decide (r ≤ 122)) || (decide (65 ≤ r) && decide (r ≤ 90)) || decide (r = 95)
def isLet (c : UInt8) : Bool := letR c.toNat
theorem isPart_eq (c : UInt8) : isPart c = (isLet c || isDig c) := rfl
theorem isLet_iff (c : UInt8) : isLet c = (isPart c && !isDig c) := by
  have key : ∀ r : Int, letR r = (partR r && !digR r) := by
    intro r
    rw [Bool.eq_iff_iff]
    simp only [partR, letR, digR, Bool.and_eq_true, Bool.or_eq_true, Bool.not_eq_true', Bool.and_eq_false_iff, decide_eq_true_eq, decide_eq_false_iff_not]
    omega
  exact key _

set_option maxRecDepth 100000 in
theorem letter_any (x : Int) (w : World) : Calls Tryd.prog 24 #[.int .u8 x] w fun e w' => e = .returned (.bool (letR x)) ∧ w' = w := by
  have E : Hid (letR x = ((decide (97 ≤ x) && decide (x ≤ 122)) || (decide (65 ≤ x) && decide (x ≤ 90)) || decide (x = 95))) := hid rfl
  generalize letR x = q at E
  by_cases h0 : 97 ≤ x
  · by_cases h1 : x ≤ 122
    · go_enter Tryd.func24, Tryd.ntmps24
      go_wp2
      go_ret
      exact ⟨ret_bool (by rw [E.out]; simp [h0, h1]), rfl⟩
    · have h2 : 65 ≤ x := by omega
      have h3 : ¬ x ≤ 90 := by omega
      have h4 : ¬ x = 95 := by omega
      have K : Hid (q = false ∧ (x == 95) = false) := hid ⟨by rw [E.out]; simp [h1, h3, h4], by simp [h4]⟩
      go_enter Tryd.func24, Tryd.ntmps24
      go_wp2
      go_ret
      exact ⟨ret_bool (by rw [K.out.1, K.out.2]), rfl⟩
  · by_cases h2 : 65 ≤ x
    · by_cases h3 : x ≤ 90
      · go_enter Tryd.func24, Tryd.ntmps24
        go_wp2
        go_ret
        exact ⟨ret_bool (by rw [E.out]; simp [h2, h3]), rfl⟩
      · have K : Hid (q = (x == 95)) := hid (by rw [E.out]; simp [h0, h3]; rfl)
        go_enter Tryd.func24, Tryd.ntmps24
        go_wp2
        go_ret
        exact ⟨ret_bool (by rw [K.out]), rfl⟩
    · have h4 : ¬ x = 95 := by omega
      have K : Hid (q = false ∧ (x == 95) = false) := hid ⟨by rw [E.out]; simp [h0, h2, h4], by simp [h4]⟩
      go_enter Tryd.func24, Tryd.ntmps24
      go_wp2
      go_ret
      exact ⟨ret_bool (by rw [K.out.1, K.out.2]), rfl⟩

set_option maxRecDepth 100000 in
theorem digit8_any (x : Int) (w : World) : Calls Tryd.prog 25 #[.int .u8 x] w fun e w' => e = .returned (.bool (digR x)) ∧ w' = w := by
  by_cases h0 : 48 ≤ x <;> by_cases h1 : x ≤ 57
  all_goals
    have E : Hid (digR x = (decide (48 ≤ x) && decide (x ≤ 57))) := hid rfl
    go_enter Tryd.func25, Tryd.ntmps25
    go_wp2
    go_ret
    refine ⟨ret_bool ?_, rfl⟩
    rw [E.out]
    simp [h0, h1]

/-- The words' cells. -/
def wordC : Array Value := (wordsL.map (fun x => Value.string (bstr x))).toArray

set_option maxRecDepth 100000 in
theorem words_any (w : World) : Calls Tryd.prog 26 #[] w fun e w' => e = .returned (.slice (some ⟨w.heap.size, 0, none⟩) 24 24) ∧ w' = w.alloc (.cells wordC 9) := by
  go_enter Tryd.func26, Tryd.ntmps26
  go_wp2
  go_ret
  exact ⟨rfl, rfl⟩

set_option maxRecDepth 100000 in
set_option maxHeartbeats 2000000 in
theorem refWord_any (l : List UInt8) (w : World) : Calls Tryd.prog 16 #[.string (bstr l)] w fun e w' => e = .returned (.bool (isWord l)) ∧ Below w.heap.size w w' := by
  have hget : ∀ k, k < 24 → (w.alloc (.cells wordC 9)).cell? ⟨w.heap.size, k, none⟩ = some (.string (bstr (wordsL.getD k []))) := fun k hk => by
    refine cell_fresh w _ 9 _ ?_
    have h2 : k < wordsL.length := hk
    simp [wordC, h2]
  have bel : Hid (Below w.heap.size w (w.alloc (.cells wordC 9))) := hid ((Below.refl _ _).alloc (Nat.le_refl _) _)
  have tl := toList_bstr l
  go_enter Tryd.func16, Tryd.ntmps16
  go_wp2_with fail
  refine (words_any w).mono ?_
  rintro e w1 ⟨rfl, rfl⟩
  generalize w.alloc (.cells wordC 9) = W at hget bel
  go_wp2_with fail
  go_loop [7] (fun i => ∃ k : Nat, i = .int .i64 k ∧ k ≤ 24 ∧ Hid (∀ j, j < k → wordsL.getD j [] ≠ l)) (fun i => 24 - (intOf i).toNat)
  case atStart => exact ⟨0, rfl, by omega, hid (fun j hj => by omega)⟩
  case round =>
    obtain ⟨k, rfl, hk, hin⟩ := hrel
    by_cases hlt : k < 24
    · have g1 := hget k hlt
      have tx := toList_bstr (wordsL.getD k [])
      have hmem : wordsL.getD k [] ∈ wordsL := by
        have h2 : k < wordsL.length := hlt
        rw [List.getD_eq_getElem?_getD, List.getElem?_eq_getElem h2]
        exact List.getElem_mem h2
      by_cases hq : wordsL.getD k [] = l
      · have F : Hid (isWord l = true) := hid (by rw [← hq, isWord, List.contains_iff_mem]; exact hmem)
        have t1 : ((bstr (wordsL.getD k [])).toList == (bstr l).toList) = true := by rw [tx, tl, hq]; simp
        clear hget hq tx tl hmem
        generalize wordsL.getD k [] = x at g1 t1
        go_wp2
        go_ret
        exact ⟨ret_bool F.out.symm, bel.out⟩
      · have F : Hid (∀ j, j < k + 1 → wordsL.getD j [] ≠ l) := hid (fun j hj => by
          by_cases hjk : j < k
          · exact hin.out j hjk
          · obtain rfl : j = k := by omega
            exact hq)
        have t1 : ((bstr (wordsL.getD k [])).toList == (bstr l).toList) = false := by rw [tx, tl]; exact beq_eq_false_iff_ne.2 hq
        clear hget hq tx tl hmem
        generalize wordsL.getD k [] = x at g1 t1
        go_wp2
        go_round
        case rel => exact ⟨k + 1, by go_num, by omega, F⟩
        case measure => simp [intOf]; omega
    · have F : Hid (isWord l = false) := hid (by
        cases hq : isWord l
        · rfl
        · rw [isWord, List.contains_iff_mem] at hq
          obtain ⟨j, hj, he⟩ := List.getElem_of_mem hq
          have hj24 : j < 24 := hj
          exact absurd (by rw [List.getD_eq_getElem?_getD, List.getElem?_eq_getElem hj]; exact he) (hin.out j (by omega)))
      go_wp2
      go_ret
      exact ⟨ret_bool F.out.symm, bel.out⟩

/-- A name. -/
def isName (l : List UInt8) : Bool := match l with
  | [] => false
  | c :: r => !isDig c && (c :: r).all isPart && !isWord (c :: r)

theorem u8_id (c : UInt8) : wrap32 (c.toNat : Int) = c.toNat := by have := c.toNat_lt; unfold wrap32; omega

set_option maxRecDepth 100000 in
set_option maxHeartbeats 2000000 in
theorem isName_any (l : List UInt8) (w : World) : Calls Tryd.prog 13 #[.string (bstr l)] w fun e w' => e = .returned (.bool (isName l)) ∧ Below w.heap.size w w' := by
  have tl := toList_bstr l
  cases l with
  | nil =>
    have t0 : ((bstr []).toList == []) = true := by rw [tl]; rfl
    clear tl
    go_enter Tryd.func13, Tryd.ntmps13
    go_wp2
    go_ret
    exact ⟨rfl, Below.refl _ _⟩
  | cons c r =>
    have t0 : ((bstr (c :: r)).toList == []) = false := by rw [tl]; rfl
    clear tl
    have s1 := bstr_size (c :: r)
    have s2 : 0 < (bstr (c :: r)).size := by rw [s1]; simp
    have g0 : (bstr (c :: r))[0]'s2 = c := get_bstr (c :: r) 0 (by simp) s2
    have Dg : ∀ W, Calls Tryd.prog 21 #[.int .i32 (wrap32 (c.toNat : Int))] W fun e w' => e = .returned (.bool (isDig c)) ∧ w' = W := fun W => by
      rw [u8_id]
      exact digit_any (c.toNat : Int) W
    have Al : ∀ W, Calls Tryd.prog 22 #[.string (bstr (c :: r)), .func (.func 23) #[] #[]] W fun e w' => e = .returned (.bool ((c :: r).all isPart)) ∧ Below W.heap.size W w' := fun W => by
      have := all_part (bstr (c :: r)) W
      rwa [bstr_list] at this
    have Wq : ∀ W, Calls Tryd.prog 14 #[.string (bstr (c :: r))] W fun e w' => e = .returned (.bool (isWord (c :: r))) ∧ w' = W := fun W => by
      have := isWord_any (bstr (c :: r)) W
      rwa [bstr_list] at this
    have F : Hid (isName (c :: r) = (!isDig c && (c :: r).all isPart && !isWord (c :: r))) := hid rfl
    generalize isName (c :: r) = q at F
    generalize isDig c = d at Dg F
    generalize (c :: r).all isPart = p at Al F
    generalize isWord (c :: r) = v at Wq F
    cases d
    · cases p
      · have F : Hid (q = false) := hid F.out
        go_enter Tryd.func13, Tryd.ntmps13
        go_wp2_with (first | (go_at_call 21; refine (Dg _).mono ?_; rintro e w' ⟨rfl, rfl⟩) | (go_at_call 22; refine (Al _).mono ?_; rintro e w1 ⟨rfl, hb⟩))
        go_ret
        exact ⟨ret_bool F.out.symm, by assumption⟩
      · have F : Hid (q = !v) := hid (by rw [F.out]; rfl)
        go_enter Tryd.func13, Tryd.ntmps13
        go_wp2_with (first | (go_at_call 21; refine (Dg _).mono ?_; rintro e w' ⟨rfl, rfl⟩) | (go_at_call 22; refine (Al _).mono ?_; rintro e w1 ⟨rfl, hb⟩) | (go_at_call 14; refine (Wq _).mono ?_; rintro e w' ⟨rfl, rfl⟩))
        go_ret
        exact ⟨ret_bool F.out.symm, by assumption⟩
    · have F : Hid (q = false) := hid F.out
      go_enter Tryd.func13, Tryd.ntmps13
      go_wp2_with (go_at_call 21; refine (Dg _).mono ?_; rintro e w' ⟨rfl, rfl⟩)
      go_ret
      exact ⟨ret_bool F.out.symm, Below.refl _ _⟩

set_option maxRecDepth 100000 in
set_option maxHeartbeats 2000000 in
theorem refName_any (l : List UInt8) (hl : l.length < 4611686018427387904) (w : World) : Calls Tryd.prog 15 #[.string (bstr l)] w fun e w' => e = .returned (.bool (isName l)) ∧ Below w.heap.size w w' := by
  have tl := toList_bstr l
  cases l with
  | nil =>
    have t0 : ((bstr []).toList == []) = true := by rw [tl]; rfl
    clear tl
    go_enter Tryd.func15, Tryd.ntmps15
    go_wp2
    go_ret
    exact ⟨rfl, Below.refl _ _⟩
  | cons c r =>
    have t0 : ((bstr (c :: r)).toList == []) = false := by rw [tl]; rfl
    clear tl
    have s1 := bstr_size (c :: r)
    have s2 : 0 < (bstr (c :: r)).size := by rw [s1]; simp
    have g0 : (bstr (c :: r))[0]'s2 = c := get_bstr (c :: r) 0 (by simp) s2
    have Wq := fun W => refWord_any (c :: r) W
    have Lq : ∀ W, Calls Tryd.prog 24 #[.int .u8 (c.toNat : Int)] W fun e w' => e = .returned (.bool (isLet c)) ∧ w' = W := fun W => letter_any _ W
    have F : Hid (isName (c :: r) = (!isDig c && (c :: r).all isPart && !isWord (c :: r))) := hid rfl
    generalize isName (c :: r) = q at F
    cases hw : isWord (c :: r)
    · rw [hw] at Wq F
      cases hL : isLet c
      · rw [hL] at Lq
        have F : Hid (q = false) := hid (by
          rw [F.out]
          rw [isLet_iff] at hL
          simp only [List.all_cons]
          cases h1 : isPart c
          · simp
          · rw [h1] at hL
            cases h2 : isDig c
            · rw [h2] at hL; simp at hL
            · simp)
        clear hL hw
        go_enter Tryd.func15, Tryd.ntmps15
        go_wp2_with (first | (go_at_call 16; refine (Wq _).mono ?_; rintro e w1 ⟨rfl, hb⟩) | (go_at_call 24; refine (Lq _).mono ?_; rintro e w' ⟨rfl, rfl⟩))
        go_ret
        exact ⟨ret_bool F.out.symm, by assumption⟩
      · rw [hL] at Lq
        have F : Hid (q = (c :: r).all isPart) := hid (by
          rw [F.out]
          rw [isLet_iff] at hL
          simp only [Bool.and_eq_true, Bool.not_eq_true'] at hL
          rw [hL.2]
          simp)
        clear hL hw
        go_enter Tryd.func15, Tryd.ntmps15
        go_wp2_with fail
        refine (Wq _).mono ?_
        rintro e w1 ⟨rfl, hb⟩
        have hb1 := hid hb
        clear hb
        go_wp2_with (go_at_call 24; refine (Lq _).mono ?_; rintro e w' ⟨rfl, rfl⟩)
        clear Lq Wq g0
        generalize c :: r = l at *
        go_loop [3] (fun i => ∃ k : Nat, i = .int .i64 k ∧ k ≤ l.length ∧ Hid (∀ j, (hj : j < l.length) → j < k → isPart (l[j]) = true)) (fun i => l.length - (intOf i).toNat)
        case atStart => exact ⟨0, rfl, by omega, hid (fun j hj hk => by omega)⟩
        case round =>
          obtain ⟨k, rfl, hk, hin⟩ := hrel
          by_cases hlt : k < l.length
          · have g1 := get_bstr l k hlt (by omega)
            have L2 : ∀ W, Calls Tryd.prog 24 #[.int .u8 ((l[k]).toNat : Int)] W fun e w' => e = .returned (.bool (isLet (l[k]))) ∧ w' = W := fun W => letter_any _ W
            have D2 : ∀ W, Calls Tryd.prog 25 #[.int .u8 ((l[k]).toNat : Int)] W fun e w' => e = .returned (.bool (isDig (l[k]))) ∧ w' = W := fun W => digit8_any _ W
            have hp := isPart_eq (l[k])
            cases h1 : isLet (l[k])
            · cases h2 : isDig (l[k])
              · have F2 : Hid (q = false) := hid (by
                  rw [F.out]
                  cases ha : l.all isPart
                  · rfl
                  · have := List.all_eq_true.1 ha _ (List.getElem_mem hlt)
                    rw [hp, h1, h2] at this
                    cases this)
                rw [h1] at L2
                rw [h2] at D2
                clear h1 h2 hp
                go_wp2_with (first | (go_at_call 24; refine (L2 _).mono ?_; rintro e w' ⟨rfl, rfl⟩) | (go_at_call 25; refine (D2 _).mono ?_; rintro e w' ⟨rfl, rfl⟩))
                go_ret
                exact ⟨ret_bool F2.out.symm, hb1.out⟩
              · have F2 : Hid (∀ j, (hj : j < l.length) → j < k + 1 → isPart (l[j]) = true) := hid (fun j hj hk => by
                  by_cases hjk : j < k
                  · exact hin.out j hj hjk
                  · obtain rfl : j = k := by omega
                    rw [hp, h1, h2]; rfl)
                rw [h1] at L2
                rw [h2] at D2
                clear h1 h2 hp
                go_wp2_with (first | (go_at_call 24; refine (L2 _).mono ?_; rintro e w' ⟨rfl, rfl⟩) | (go_at_call 25; refine (D2 _).mono ?_; rintro e w' ⟨rfl, rfl⟩))
                go_round
                case rel => exact ⟨k + 1, by go_num, by omega, F2⟩
                case measure => simp [intOf]; omega
            · have F2 : Hid (∀ j, (hj : j < l.length) → j < k + 1 → isPart (l[j]) = true) := hid (fun j hj hk => by
                by_cases hjk : j < k
                · exact hin.out j hj hjk
                · obtain rfl : j = k := by omega
                  rw [hp, h1]; rfl)
              rw [h1] at L2
              clear h1 hp D2
              go_wp2_with (first | (go_at_call 24; refine (L2 _).mono ?_; rintro e w' ⟨rfl, rfl⟩))
              go_round
              case rel => exact ⟨k + 1, by go_num, by omega, F2⟩
              case measure => simp [intOf]; omega
          · have F2 : Hid (q = true) := hid (by
              rw [F.out, List.all_eq_true]
              intro x hx
              obtain ⟨j, hj, rfl⟩ := List.getElem_of_mem hx
              exact hin.out j hj (by omega))
            go_wp2
            go_ret
            exact ⟨ret_bool F2.out.symm, hb1.out⟩
    · rw [hw] at Wq F
      have F : Hid (q = false) := hid (by rw [F.out]; simp)
      clear hw Lq
      go_enter Tryd.func15, Tryd.ntmps15
      go_wp2_with (go_at_call 16; refine (Wq _).mono ?_; rintro e w1 ⟨rfl, hb⟩)
      go_ret
      exact ⟨ret_bool F.out.symm, by assumption⟩
end Go.Proofs.YtdankjkmgcclhaaDoor
