/- The contract of the document's own answer for one token. -/
import Derived.Test.YtdankjkmgcclhaaDoorRefA
import Derived.Test.YtdankjkmgcclhaaDoorRefB
namespace Go.Proofs.YtdankjkmgcclhaaDoor
open Go.ChangeShapes Go.WideShapes Go.ChangeAt Go.RowKit
set_option linter.unusedVariables false

theorem own5t {w w' : World} {t : TypeId} {a0 a1 a2 a3 a4 : Value} (hb : Below (w.alloc (.cells #[a0, a1, a2, a3, a4] t)).heap.size (w.alloc (.cells #[a0, a1, a2, a3, a4] t)) w') :
    Blk w' w.heap.size #[a0, a1, a2, a3, a4] t ∧
    (w'.cell? ⟨w.heap.size, 0, none⟩ = some a0 ∧ w'.cell? ⟨w.heap.size, 1, none⟩ = some a1 ∧ w'.cell? ⟨w.heap.size, 2, none⟩ = some a2 ∧ w'.cell? ⟨w.heap.size, 3, none⟩ = some a3 ∧ w'.cell? ⟨w.heap.size, 4, none⟩ = some a4) ∧
    (∀ j, w'.frozen? ⟨w.heap.size, j, none⟩ = false) ∧ Below w.heap.size w w' := by
  have k := (Blk.new w #[a0, a1, a2, a3, a4] t).kept hb
  exact ⟨k, ⟨k.cell 0, k.cell 1, k.cell 2, k.cell 3, k.cell 4⟩, fun j => k.frozen j, Below.over ((Below.refl _ _).alloc (Nat.le_refl _) _) hb⟩
theorem Blk.set5t {w : World} {b : Nat} {t : TypeId} {a0 a1 a2 a3 a4 : Value} (h : Blk w b #[a0, a1, a2, a3, a4] t) (b0 b1 b2 b3 b4 : Value) :
    Blk (((((w.setCell ⟨b, 0, none⟩ b0).setCell ⟨b, 1, none⟩ b1).setCell ⟨b, 2, none⟩ b2).setCell ⟨b, 3, none⟩ b3).setCell ⟨b, 4, none⟩ b4) b #[b0, b1, b2, b3, b4] t :=
  ((((h.set 0 b0).set 1 b1).set 2 b2).set 3 b3).set 4 b4

/-- The token at a byte, and behind which byte it ends; or none. -/
def oneR (i : Nat) (o : Option (Nat × List UInt8 × Nat)) : Value := match o with
  | some (k, t, n) => .tuple #[tokV k t n 0 0, .int .i64 ((i + t.length : Nat) : Int)]
  | none => .tuple #[tokV 0 [] 0 0 0, .int .i64 i]

theorem oneOk {i k n : Nat} {t : List UInt8} {x : Int} (h : x = ((i + t.length : Nat) : Int)) : Ending.returned (.tuple #[.agg #[.int .i64 k, .string (bstr t), .int .u64 n, .int .i64 0, .int .i64 0], .int .i64 x]) = .returned (oneR i (some (k, t, n))) := by
  subst h
  rfl

theorem word_dig (c : UInt8) (r : List UInt8) (h : isDig c = true) : isWord (c :: r) = false := by
  cases hw : isWord (c :: r)
  · rfl
  · rw [isWord, List.contains_iff_mem] at hw
    have key : ∀ x ∈ wordsL, ∀ c r, x = c :: r → isDig c = false := by
      intro x hx c r he
      have := (by decide : ∀ x ∈ wordsL, (match x with | [] => false | c :: _ => isDig c) = false) x hx
      rw [he] at this
      exact this
    rw [key _ hw c r rfl] at h
    cases h

theorem first_sign (c : UInt8) (m : List UInt8) (hc : ¬ c = 35) (hz : runOf isPart (c :: m) = 0) : firstT (c :: m) = match signAt (c :: m) with | some x => some (5, x, 0) | none => none := by
  simp only [firstT, if_neg hc, if_pos hz]
  cases signAt (c :: m) <;> rfl
theorem while_head (c : UInt8) (m : List UInt8) (hz : ¬ runOf isPart (c :: m) = 0) : ∃ m', (c :: m).takeWhile isPart = c :: m' := by
  cases hp : isPart c
  · exact absurd (by simp [runOf, hp]) hz
  · exact ⟨m.takeWhile isPart, by simp [hp]⟩
theorem first_rest (c : UInt8) (m t : List UInt8) (hc : ¬ c = 35) (hz : ¬ runOf isPart (c :: m) = 0) (ht : (c :: m).takeWhile isPart = t) :
    firstT (c :: m) = if isDig c = true then (match intN t with | some n => some (3, t, n) | none => none) else if isWord t = true then some (2, t, 0) else some (1, t, 0) := by
  simp only [firstT, if_neg hc, if_neg hz, ht]
  by_cases hd : isDig c = true
  · rw [if_pos hd, if_pos hd]
    cases intN t <;> rfl
  · rw [if_neg hd, if_neg hd]

set_option maxRecDepth 100000 in
set_option maxHeartbeats 4000000 in
theorem refOne_any (l : List UInt8) (i : Nat) (hi : i < l.length) (hl : l.length < 4611686018427387904) (w : World) :
    Calls Tryd.prog 20 #[.string (bstr l), .int .i64 i] w fun e w' => e = .returned (oneR i (firstT (l.drop i))) ∧ Below w.heap.size w w' := by
  have s1 := bstr_size l
  have g0 := get_bstr l i hi (by omega)
  have hd : l.drop i = l[i] :: l.drop (i + 1) := List.drop_eq_getElem_cons hi
  have hdl : (l.drop i).length = l.length - i := List.length_drop
  by_cases hc : l[i] = 35
  · have R : ∀ W, Calls Tryd.prog 34 #[.string (bstr l), .int .i64 ((i : Int) + 1)] W fun e w' => e = .returned (.int .i64 ((i : Int) + 1 + (runOf isPart (l.drop (i + 1)) : Nat))) ∧ w' = W := fun W => by
      have := refRow_any l (i + 1) (by omega) hl W
      have e1 : ((i + 1 : Nat) : Int) = (i : Int) + 1 := by omega
      have e2 : ((i + 1 + runOf isPart (l.drop (i + 1)) : Nat) : Int) = (i : Int) + 1 + (runOf isPart (l.drop (i + 1)) : Nat) := by omega
      rwa [e1, e2] at this
    have hn := runOf_le isPart (l.drop (i + 1))
    have hdl1 : (l.drop (i + 1)).length = l.length - (i + 1) := List.length_drop
    have x1 := extract_mid l (i + 1) (runOf isPart (l.drop (i + 1)))
    have x2 := extract_mid l i (1 + runOf isPart (l.drop (i + 1)))
    have tk := take_run isPart (l.drop (i + 1))
    have e2 : (l.drop i).take (1 + runOf isPart (l.drop (i + 1))) = l[i] :: (l.drop (i + 1)).takeWhile isPart := by rw [hd, Nat.add_comm, List.take_succ_cons, tk]
    rw [e2] at x2
    rw [tk] at x1
    rw [show i + (1 + runOf isPart (l.drop (i + 1))) = i + 1 + runOf isPart (l.drop (i + 1)) by omega] at x2
    have hlen : ((l.drop (i + 1)).takeWhile isPart).length = runOf isPart (l.drop (i + 1)) := rfl
    have Q := fun W => refBits_any ((l.drop (i + 1)).takeWhile isPart) (by omega) W
    have FF : Hid (firstT (l.drop i) = if ((l.drop (i + 1)).takeWhile isPart).length = 16 ∧ ((l.drop (i + 1)).takeWhile isPart).all isHex = true then some (4, l[i] :: (l.drop (i + 1)).takeWhile isPart, hexF 0 ((l.drop (i + 1)).takeWhile isPart)) else none) := hid (by
      rw [hd]
      simp only [firstT, if_pos hc])
    have t1 : (((l[i]).toNat : Int) == 35) = true := by rw [hc]; rfl
    have hlen2 := hid hlen
    clear hd hc tk e2 hlen
    generalize (l.drop (i + 1)).takeWhile isPart = d at *
    generalize runOf isPart (l.drop (i + 1)) = n at *
    generalize l[i] = c at *
    by_cases hq : d.length = 16 ∧ d.all isHex = true
    · have F : Hid (firstT (l.drop i) = some (4, c :: d, hexF 0 d)) := hid (by rw [FF.out, if_pos hq])
      have Q2 : ∀ W, Calls Tryd.prog 35 #[.string (bstr d)] W fun e w' => e = .returned (.tuple #[.int .u64 (hexF 0 d), .bool true]) ∧ w' = W := fun W => (Q W).mono (by
        rintro e w' ⟨v, rfl, hv, rfl⟩
        rw [bitsEnd, if_pos hq] at hv
        exact ⟨by rw [hv], rfl⟩)
      generalize hexF 0 d = y at *
      clear hq FF Q
      go_enter Tryd.func20, Tryd.ntmps20
      go_wp2_with (first | (go_at_call 34; refine (R _).mono ?_; rintro e w' ⟨rfl, rfl⟩) | (go_at_call 35; refine (Q2 _).mono ?_; rintro e w' ⟨rfl, rfl⟩))
      try simp only [Exit.inBlock, Exit.then]
      refine bodyPost_ret (results_row_tmp (P := Tryd.prog) rfl _ _ w.heap.size _ _ _ _ rfl (heap_alloc_new _ _) Tryd.underlying37 rfl (by kernel_rfl)) rfl ?_
      exact ⟨by rw [F.out]; exact oneOk (by have := hlen2.out; simp only [List.length_cons]; omega), (Below.refl _ _).alloc (Nat.le_refl _) _⟩
    · have F : Hid (firstT (l.drop i) = none) := hid (by rw [FF.out, if_neg hq])
      have Q2 : ∀ W, Calls Tryd.prog 35 #[.string (bstr d)] W fun e w' => ∃ x : Int, e = .returned (.tuple #[.int .u64 x, .bool false]) ∧ w' = W := fun W => (Q W).mono (by
        rintro e w' ⟨v, rfl, hv, rfl⟩
        rw [bitsEnd, if_neg hq] at hv
        obtain ⟨x, hv⟩ := hv
        exact ⟨x, by rw [hv], rfl⟩)
      clear hq FF Q
      go_enter Tryd.func20, Tryd.ntmps20
      go_wp2_with (first | (go_at_call 34; refine (R _).mono ?_; rintro e w' ⟨rfl, rfl⟩) | (go_at_call 35; refine (Q2 _).mono ?_; rintro e w' ⟨x, rfl, rfl⟩))
      try simp only [Exit.inBlock, Exit.then]
      refine bodyPost_ret (results_row_tmp (P := Tryd.prog) rfl _ _ w.heap.size _ _ _ _ rfl (heap_alloc_new _ _) Tryd.underlying37 rfl (by kernel_rfl)) rfl ?_
      exact ⟨by rw [F.out]; rfl, (Below.refl _ _).alloc (Nat.le_refl _) _⟩
  · have R : ∀ W, Calls Tryd.prog 34 #[.string (bstr l), .int .i64 i] W fun e w' => e = .returned (.int .i64 ((i : Int) + (runOf isPart (l.drop i) : Nat))) ∧ w' = W := fun W => by
      have := refRow_any l i (by omega) hl W
      have e2 : ((i + runOf isPart (l.drop i) : Nat) : Int) = (i : Int) + (runOf isPart (l.drop i) : Nat) := by omega
      rwa [e2] at this
    have t1 : (((l[i]).toNat : Int) == 35) = false := rune_ne rfl hc
    have hn := runOf_le isPart (l.drop i)
    by_cases hz : runOf isPart (l.drop i) = 0
    · have S := fun W => refSign_any l i (by omega) hl W
      have FF : Hid (firstT (l.drop i) = match signAt (l.drop i) with | some x => some (5, x, 0) | none => none) := hid (by
        rw [hd] at hz ⊢
        exact first_sign _ _ hc hz)
      rw [hz] at R
      have sm : Hid (∀ x, signAt (l.drop i) = some x → 1 ≤ x.length ∧ x.length ≤ 2) := hid (fun x hx => (by decide : ∀ x ∈ signsL, 1 ≤ x.length ∧ x.length ≤ 2) x (sign_mem hx).1)
      clear hz hd hc
      cases hs : signAt (l.drop i) with
      | none =>
        have F : Hid (firstT (l.drop i) = none) := hid (by rw [FF.out, hs])
        rw [hs] at S
        have S2 : ∀ W, Calls Tryd.prog 36 #[.string (bstr l), .int .i64 i] W fun e w' => e = .returned (.string (bstr [])) ∧ Below W.heap.size W w' := S
        have t2 : ((bstr []).toList == []) = true := by rw [toList_bstr]; rfl
        clear FF S hs sm
        go_enter Tryd.func20, Tryd.ntmps20
        go_wp2_with (go_at_call 34; refine (R _).mono ?_; rintro e w' ⟨rfl, rfl⟩)
        refine (S2 _).mono ?_
        rintro e w' ⟨rfl, hb⟩
        obtain ⟨k1, ⟨c0, c1, c2, c3, c4⟩, hf, kb1⟩ := own5t hb
        have k0 := hid k1
        have kb := hid kb1
        clear hb k1 kb1
        go_wp2
        try simp only [Exit.inBlock, Exit.then]
        refine bodyPost_ret (results_row_tmp (P := Tryd.prog) rfl _ _ w.heap.size _ _ _ _ rfl (k0.out.set5t _ _ _ _ _) Tryd.underlying37 rfl (by kernel_rfl)) rfl ?_
        exact ⟨by rw [F.out]; rfl, below_set5 kb.out (Nat.le_refl _) _ _ _ _ _⟩
      | some x =>
        have F : Hid (firstT (l.drop i) = some (5, x, 0)) := hid (by rw [FF.out, hs])
        rw [hs] at S
        have S2 : ∀ W, Calls Tryd.prog 36 #[.string (bstr l), .int .i64 i] W fun e w' => e = .returned (.string (bstr x)) ∧ Below W.heap.size W w' := S
        obtain ⟨x1, x2⟩ := sm.out x hs
        have s3 := bstr_size x
        have t2 : ((bstr x).toList == []) = false := by
          rw [toList_bstr]
          cases x
          · simp at x1
          · rfl
        clear FF S hs sm
        go_enter Tryd.func20, Tryd.ntmps20
        go_wp2_with (go_at_call 34; refine (R _).mono ?_; rintro e w' ⟨rfl, rfl⟩)
        refine (S2 _).mono ?_
        rintro e w' ⟨rfl, hb⟩
        obtain ⟨k1, ⟨c0, c1, c2, c3, c4⟩, hf, kb1⟩ := own5t hb
        have k0 := hid k1
        have kb := hid kb1
        clear hb k1 kb1
        go_wp2
        try simp only [Exit.inBlock, Exit.then]
        refine bodyPost_ret (results_row_tmp (P := Tryd.prog) rfl _ _ w.heap.size _ _ _ _ rfl (k0.out.set5t _ _ _ _ _) Tryd.underlying37 rfl (by kernel_rfl)) rfl ?_
        exact ⟨by rw [F.out]; exact oneOk (by omega), below_set5 kb.out (Nat.le_refl _) _ _ _ _ _⟩
    · have x2 := extract_mid l i (runOf isPart (l.drop i))
      have tk := take_run isPart (l.drop i)
      have hlen : ((l.drop i).takeWhile isPart).length = runOf isPart (l.drop i) := rfl
      rw [tk] at x2
      obtain ⟨m, hm⟩ : ∃ m, (l.drop i).takeWhile isPart = l[i] :: m := by
        rw [hd] at hz
        have := while_head _ _ hz
        rwa [← hd] at this
      have hall : (l[i] :: m).all isPart = true := by rw [← hm, List.all_eq_true]; exact while_part _
      rw [hm] at x2 hlen
      have FF : Hid (firstT (l.drop i) = if isDig l[i] = true then (match intN (l[i] :: m) with | some n => some (3, l[i] :: m, n) | none => none) else if isWord (l[i] :: m) = true then some (2, l[i] :: m, 0) else some (1, l[i] :: m, 0)) := hid (by
        have := first_rest l[i] (l.drop (i + 1)) (l[i] :: m) hc (by rw [← hd]; exact hz) (by rw [← hd]; exact hm)
        rwa [← hd] at this)
      have zc : (((i : Int) + (runOf isPart (l.drop i) : Nat)) == (i : Int)) = false := by rw [beq_eq_false_iff_ne]; omega
      have Wq := fun W => refWord_any (l[i] :: m) W
      have Nq := fun W => refName_any (l[i] :: m) (by omega) W
      have Hq := fun W => refWhole_any l[i] m (by omega) W
      have hlen2 := hid hlen
      have wd := hid (word_dig l[i] m)
      have nm : Hid (isName (l[i] :: m) = (!isDig l[i] && !isWord (l[i] :: m))) := hid (by simp only [isName, hall]; simp)
      clear hd hm tk hall hz hc hlen
      generalize runOf isPart (l.drop i) = n at *
      generalize hci : l[i] = c at *
      clear hci
      cases hdg : isDig c
      · cases hw : isWord (c :: m)
        · have F : Hid (firstT (l.drop i) = some (1, c :: m, 0)) := hid (by rw [FF.out, hdg, hw]; rfl)
          have hn1 : isName (c :: m) = true := by rw [nm.out, hdg, hw]; rfl
          rw [hw] at Wq
          rw [hn1] at Nq
          clear FF wd nm hdg hw hn1 Hq
          go_enter Tryd.func20, Tryd.ntmps20
          go_wp2_with (go_at_call 34; refine (R _).mono ?_; rintro e w' ⟨rfl, rfl⟩)
          refine (Wq _).mono ?_
          rintro e w1 ⟨rfl, hb1⟩
          go_wp2_with fail
          refine (Nq _).mono ?_
          rintro e w' ⟨rfl, hb2⟩
          have hb := Below.over hb1 hb2
          obtain ⟨k1, ⟨c0, c1, c2, c3, c4⟩, hf, kb1⟩ := own5t hb
          have k0 := hid k1
          have kb := hid kb1
          clear hb k1 kb1 hb1 hb2
          go_wp2
          try simp only [Exit.inBlock, Exit.then]
          refine bodyPost_ret (results_row_tmp (P := Tryd.prog) rfl _ _ w.heap.size _ _ _ _ rfl (k0.out.set5t _ _ _ _ _) Tryd.underlying37 rfl (by kernel_rfl)) rfl ?_
          exact ⟨by rw [F.out]; exact oneOk (by have := hlen2.out; omega), below_set5 kb.out (Nat.le_refl _) _ _ _ _ _⟩
        · have F : Hid (firstT (l.drop i) = some (2, c :: m, 0)) := hid (by rw [FF.out, hdg, hw]; rfl)
          rw [hw] at Wq
          clear FF wd nm hdg hw Hq Nq
          go_enter Tryd.func20, Tryd.ntmps20
          go_wp2_with (go_at_call 34; refine (R _).mono ?_; rintro e w' ⟨rfl, rfl⟩)
          refine (Wq _).mono ?_
          rintro e w' ⟨rfl, hb⟩
          obtain ⟨k1, ⟨c0, c1, c2, c3, c4⟩, hf, kb1⟩ := own5t hb
          have k0 := hid k1
          have kb := hid kb1
          clear hb k1 kb1
          go_wp2
          try simp only [Exit.inBlock, Exit.then]
          refine bodyPost_ret (results_row_tmp (P := Tryd.prog) rfl _ _ w.heap.size _ _ _ _ rfl (k0.out.set5t _ _ _ _ _) Tryd.underlying37 rfl (by kernel_rfl)) rfl ?_
          exact ⟨by rw [F.out]; exact oneOk (by have := hlen2.out; omega), below_set5 kb.out (Nat.le_refl _) _ _ _ _ _⟩
      · have hw : isWord (c :: m) = false := wd.out hdg
        have hn1 : isName (c :: m) = false := by rw [nm.out, hdg]; rfl
        rw [hw] at Wq
        rw [hn1] at Nq
        cases hin : intN (c :: m) with
        | none =>
          have F : Hid (firstT (l.drop i) = none) := hid (by rw [FF.out, hdg, hin]; rfl)
          have H2 : ∀ W, Calls Tryd.prog 37 #[.string (bstr (c :: m))] W fun e w' => ∃ x : Int, e = .returned (.tuple #[.int .u64 x, .bool false]) ∧ w' = W := fun W => (Hq W).mono (by
            rintro e w' ⟨v, rfl, hv, rfl⟩
            rw [wholeEnd, hin] at hv
            obtain ⟨x, hv⟩ := hv
            exact ⟨x, by rw [hv], rfl⟩)
          clear FF wd nm hdg hw hn1 Hq hin
          go_enter Tryd.func20, Tryd.ntmps20
          go_wp2_with (go_at_call 34; refine (R _).mono ?_; rintro e w' ⟨rfl, rfl⟩)
          refine (Wq _).mono ?_
          rintro e w1 ⟨rfl, hb1⟩
          go_wp2_with fail
          refine (Nq _).mono ?_
          rintro e w' ⟨rfl, hb2⟩
          have hb := Below.over hb1 hb2
          obtain ⟨k1, ⟨c0, c1, c2, c3, c4⟩, hf, kb1⟩ := own5t hb
          have k0 := hid k1
          have kb := hid kb1
          clear hb k1 kb1 hb1 hb2
          go_wp2_with fail
          refine (H2 _).mono ?_
          rintro e w9 ⟨x, rfl, rfl⟩
          go_wp2
          try simp only [Exit.inBlock, Exit.then]
          refine bodyPost_ret (results_row_tmp (P := Tryd.prog) rfl _ _ w.heap.size _ _ _ _ rfl (k0.out.set5t _ _ _ _ _) Tryd.underlying37 rfl (by kernel_rfl)) rfl ?_
          exact ⟨by rw [F.out]; rfl, below_set5 kb.out (Nat.le_refl _) _ _ _ _ _⟩
        | some y =>
          have F : Hid (firstT (l.drop i) = some (3, c :: m, y)) := hid (by rw [FF.out, hdg, hin]; rfl)
          have H2 : ∀ W, Calls Tryd.prog 37 #[.string (bstr (c :: m))] W fun e w' => e = .returned (.tuple #[.int .u64 y, .bool true]) ∧ w' = W := fun W => (Hq W).mono (by
            rintro e w' ⟨v, rfl, hv, rfl⟩
            rw [wholeEnd, hin] at hv
            exact ⟨by rw [hv], rfl⟩)
          clear FF wd nm hdg hw hn1 Hq hin
          go_enter Tryd.func20, Tryd.ntmps20
          go_wp2_with (go_at_call 34; refine (R _).mono ?_; rintro e w' ⟨rfl, rfl⟩)
          refine (Wq _).mono ?_
          rintro e w1 ⟨rfl, hb1⟩
          go_wp2_with fail
          refine (Nq _).mono ?_
          rintro e w' ⟨rfl, hb2⟩
          have hb := Below.over hb1 hb2
          obtain ⟨k1, ⟨c0, c1, c2, c3, c4⟩, hf, kb1⟩ := own5t hb
          have k0 := hid k1
          have kb := hid kb1
          clear hb k1 kb1 hb1 hb2
          go_wp2_with fail
          refine (H2 _).mono ?_
          rintro e w9 ⟨rfl, rfl⟩
          go_wp2
          try simp only [Exit.inBlock, Exit.then]
          refine bodyPost_ret (results_row_tmp (P := Tryd.prog) rfl _ _ w.heap.size _ _ _ _ rfl (k0.out.set5t _ _ _ _ _) Tryd.underlying37 rfl (by kernel_rfl)) rfl ?_
          exact ⟨by rw [F.out]; exact oneOk (by have := hlen2.out; omega), below_set5 kb.out (Nat.le_refl _) _ _ _ _ _⟩
end Go.Proofs.YtdankjkmgcclhaaDoor
