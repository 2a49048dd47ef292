/- The token with which letters begin, plainly, and the contract of lex's first. -/
import Derived.Test.YtdankjkmgcclhaaDoorTok
namespace Go.Proofs.YtdankjkmgcclhaaDoor
open Go.ChangeShapes Go.WideShapes Go.ChangeAt Go.RowKit
set_option linter.unusedVariables false

/-- The token with which letters begin: its kind, its letters, its number. -/
def firstT (l : List UInt8) : Option (Nat × List UInt8 × Nat) := match l with
  | [] => some (0, [], 0)
  | c :: r =>
    if c = 35 then (if (r.takeWhile isPart).length = 16 ∧ (r.takeWhile isPart).all isHex = true then some (4, c :: r.takeWhile isPart, hexF 0 (r.takeWhile isPart)) else none)
    else if runOf isPart (c :: r) = 0 then (match signAt (c :: r) with | some x => some (5, x, 0) | none => none)
    else if isDig c = true then (match intN ((c :: r).takeWhile isPart) with | some n => some (3, (c :: r).takeWhile isPart, n) | none => none)
    else if isWord ((c :: r).takeWhile isPart) = true then some (2, (c :: r).takeWhile isPart, 0)
    else some (1, (c :: r).takeWhile isPart, 0)

def firstV (l : List UInt8) : Value := match firstT l with | some (k, t, n) => okV k t n | none => noV

theorem take_run (p : UInt8 → Bool) (l : List UInt8) : l.take (runOf p l) = l.takeWhile p := by
  unfold runOf
  induction l with
  | nil => rfl
  | cons c r ih =>
    simp only [List.takeWhile_cons]
    split
    · simp [ih]
    · simp

/-- A value that is a token and whether it is one. -/
def TupV (v : Value) : Prop := ∃ (k : Nat) (t : List UInt8) (n : Nat) (b : Bool), v = .tuple #[.agg #[.int .i64 k, .string (bstr t), .int .u64 n, .int .i64 (0 : Nat), .int .i64 (0 : Nat)], .bool b]
theorem tup_ok (k : Nat) (t : List UInt8) (n : Nat) : TupV (okV k t n) := ⟨k, t, n, true, rfl⟩
theorem tup_no : TupV noV := ⟨0, [], 0, false, rfl⟩
theorem tup_real (l : List UInt8) : TupV (realV l) := by
  unfold realV
  split
  · exact tup_ok _ _ _
  · exact tup_no
theorem tup_sign (l : List UInt8) : TupV (signV l) := by
  unfold signV
  split
  · exact tup_ok _ _ _
  · exact tup_no
theorem tup_int (l : List UInt8) : TupV (intV l) := by
  unfold intV
  split
  · exact tup_ok _ _ _
  · exact tup_no

set_option maxRecDepth 100000 in
set_option maxHeartbeats 4000000 in
theorem first_any (l : List UInt8) (hl : l.length < 281474976710656) (w : World) (h : Errs w) (h' : Signs w) :
    Calls Tryd.prog 19 #[.string (bstr l)] w fun e w' => e = .returned (firstV l) ∧ Below w.heap.size w w' := by
  have tl := toList_bstr l
  cases hq : l with
  | nil =>
    subst hq
    have t0 : ((bstr []).toList == []) = true := by rw [tl]; rfl
    have F : Hid (firstV [] = okV 0 [] 0) := hid rfl
    clear tl
    go_enter Tryd.func19, Tryd.ntmps19
    go_wp2
    try simp only [Exit.inBlock, Exit.then]
    refine bodyPost_ret (results_row_tmp (P := Tryd.prog) rfl _ _ w.heap.size _ _ _ _ rfl (heap_alloc_new _ _) Tryd.underlying35 rfl (by kernel_rfl)) rfl ?_
    exact ⟨by rw [F.out]; rfl, (Below.refl _ _).alloc (Nat.le_refl _) _⟩
  | cons c r =>
    subst hq
    have t0 : ((bstr (c :: r)).toList == []) = false := by rw [tl]; rfl
    clear tl
    have s1 := bstr_size (c :: r)
    have s2 : 0 < (bstr (c :: r)).size := by rw [s1]; simp
    have g0 : (bstr (c :: r))[0]'s2 = c := get_bstr (c :: r) 0 (by simp) s2
    have hpos : 1 ≤ (c :: r).length := by simp
    have R : ∀ (m : List UInt8) W, Calls Tryd.prog 31 #[.string (bstr m)] W fun e w' => e = .returned (.int .i64 (runOf isPart m)) ∧ Below W.heap.size W w' := fun m W => by
      have := row_any (bstr m) W
      rwa [bstr_list] at this
    have kept : ∀ w1, Below (w.alloc (.cells #[.int .i64 0, .string { data := #[] }, .int .u64 0, .int .i64 0, .int .i64 0] 35)).heap.size (w.alloc (.cells #[.int .i64 0, .string { data := #[] }, .int .u64 0, .int .i64 0, .int .i64 0] 35)) w1 → Errs w1 ∧ Signs w1 := fun w1 hb =>
      ⟨h.kept (Below.over ((Below.refl _ _).alloc (Nat.le_refl _) _) hb), h'.kept (Below.over ((Below.refl _ _).alloc (Nat.le_refl _) _) hb)⟩
    have kept := hid kept
    by_cases hc : c = 35
    · have hn := runOf_le isPart r
      have F : Hid (firstV (c :: r) = realV ((c :: r).take (1 + runOf isPart r))) := hid (by
        have e : (c :: r).take (1 + runOf isPart r) = c :: r.takeWhile isPart := by rw [Nat.add_comm, List.take_succ_cons, take_run]
        rw [e]
        simp only [firstV, firstT, realV, if_pos hc, List.drop_succ_cons, List.drop_zero]
        by_cases q : (r.takeWhile isPart).length = 16 ∧ (r.takeWhile isPart).all isHex = true
        · rw [if_pos q, if_pos q]
        · rw [if_neg q, if_neg q])
      have t1 : ((c.toNat : Int) == 35) = true := by rw [hc]; rfl
      have x1 : (bstr (c :: r)).extract 1 (r.length + 1) = bstr r := extract_bstr (c :: r) 1 _ rfl
      have x2 := extract0_bstr (c :: r) (1 + runOf isPart r)
      have hlt : (c :: r).length = r.length + 1 := rfl
      have Q := fun W => realOf_any ((c :: r).take (1 + runOf isPart r)) (by rw [List.length_take]; omega) (by rw [List.length_take]; omega) W
      have R := R r
      generalize runOf isPart r = n at *
      obtain ⟨tk, tt, tn, tb, e0⟩ := tup_real ((c :: r).take (1 + n))
      rw [e0] at Q
      have e0 := hid e0
      clear hc
      go_enter Tryd.func19, Tryd.ntmps19
      go_wp2_with fail
      refine (R _).mono ?_
      rintro e w1 ⟨rfl, hb1⟩
      go_wp2_with fail
      refine (Q _).mono ?_
      rintro e w' ⟨rfl, hb2⟩
      have hb := Below.over hb1 hb2
      clear hb1 hb2
      obtain ⟨k1, ⟨c0, c1, c2, c3, c4⟩, hf, kb1⟩ := own5 hb
      have k0 := hid k1
      have kb := hid kb1
      clear hb k1 kb1
      go_wp2
      try simp only [Exit.inBlock, Exit.then]
      refine bodyPost_ret (results_row_tmp (P := Tryd.prog) rfl _ _ w.heap.size _ _ _ _ rfl (k0.out.set5 _ _ _ _ _) Tryd.underlying35 rfl (by kernel_rfl)) rfl ?_
      exact ⟨by rw [F.out, e0.out]; rfl, below_set5 kb.out (Nat.le_refl _) _ _ _ _ _⟩
    · have t1 : ((c.toNat : Int) == 35) = false := by
        rw [beq_eq_false_iff_ne]
        intro e
        exact hc (UInt8.toNat_inj.1 (by have : c.toNat = 35 := by omega
                                        rw [this]; rfl))
      have hn := runOf_le isPart (c :: r)
      have R := R (c :: r)
      by_cases hz : runOf isPart (c :: r) = 0
      · have F : Hid (firstV (c :: r) = signV (c :: r)) := hid (by
          simp only [firstV, firstT, if_neg hc, if_pos hz, signV]
          cases signAt (c :: r) <;> rfl)
        have Q := fun W hW => signOf_any (c :: r) W hW
        obtain ⟨tk, tt, tn, tb, e0⟩ := tup_sign (c :: r)
        rw [e0] at Q
        have e0 := hid e0
        rw [hz] at R
        clear hz hc
        go_enter Tryd.func19, Tryd.ntmps19
        go_wp2_with fail
        refine (R _).mono ?_
        rintro e w1 ⟨rfl, hb1⟩
        have Q := Q w1 (kept.out w1 hb1).2
        go_wp2_with fail
        refine Q.mono ?_
        rintro e w' ⟨rfl, hb2⟩
        have hb := Below.over hb1 hb2
        clear hb1 hb2
        obtain ⟨k1, ⟨c0, c1, c2, c3, c4⟩, hf, kb1⟩ := own5 hb
        have k0 := hid k1
        have kb := hid kb1
        clear hb k1 kb1
        go_wp2
        try simp only [Exit.inBlock, Exit.then]
        refine bodyPost_ret (results_row_tmp (P := Tryd.prog) rfl _ _ w.heap.size _ _ _ _ rfl (k0.out.set5 _ _ _ _ _) Tryd.underlying35 rfl (by kernel_rfl)) rfl ?_
        exact ⟨by rw [F.out, e0.out]; rfl, below_set5 kb.out (Nat.le_refl _) _ _ _ _ _⟩
      · have x2 := extract0_bstr (c :: r) (runOf isPart (c :: r))
        have tk0 := take_run isPart (c :: r)
        have tlen : ((c :: r).takeWhile isPart).length = runOf isPart (c :: r) := rfl
        obtain ⟨m, hm⟩ : ∃ m, (c :: r).takeWhile isPart = c :: m := by
          cases hp : isPart c
          · exact absurd (by simp [runOf, hp]) hz
          · exact ⟨r.takeWhile isPart, by simp [hp]⟩
        rw [tk0, hm] at x2
        rw [hm] at tlen
        have z0 : (((runOf isPart (c :: r) : Nat) : Int) == 0) = false := by
          rw [beq_eq_false_iff_ne]; omega
        have s3 := bstr_size (c :: m)
        have s4 : 0 < (bstr (c :: m)).size := by rw [s3]; simp
        have g1 : (bstr (c :: m))[0]'s4 = c := get_bstr (c :: m) 0 (by simp) s4
        have cpos : (c :: m).length = m.length + 1 := rfl
        have Dg : ∀ W, Calls Tryd.prog 21 #[.int .i32 (wrap32 (c.toNat : Int))] W fun e w' => e = .returned (.bool (isDig c)) ∧ w' = W := fun W => by
          have e32 : wrap32 (c.toNat : Int) = c.toNat := by have := c.toNat_lt; unfold wrap32; omega
          rw [e32]
          exact digit_any (c.toNat : Int) W
        have Iq := fun W hW => intOf_any (c :: m) (by simp) (by omega) W hW
        have Wq : ∀ W, Calls Tryd.prog 14 #[.string (bstr (c :: m))] W fun e w' => e = .returned (.bool (isWord (c :: m))) ∧ w' = W := fun W => by
          have := isWord_any (bstr (c :: m)) W
          rwa [bstr_list] at this
        have FF : Hid (firstV (c :: r) = if isDig c = true then intV (c :: m) else if isWord (c :: m) = true then okV 2 (c :: m) 0 else okV 1 (c :: m) 0) := hid (by
          simp only [firstV, firstT, if_neg hc, if_neg hz, hm, intV]
          by_cases q : isDig c = true
          · rw [if_pos q, if_pos q]
            cases intN (c :: m) <;> rfl
          · rw [if_neg q, if_neg q]
            by_cases q2 : isWord (c :: m) = true
            · rw [if_pos q2, if_pos q2]
            · rw [if_neg q2, if_neg q2])
        clear tk0 hm hz hc
        generalize runOf isPart (c :: r) = n at *
        cases hdg : isDig c
        · rw [hdg] at Dg FF
          cases hw : isWord (c :: m)
          · rw [hw] at Wq FF
            have F : Hid (firstV (c :: r) = okV 1 (c :: m) 0) := hid FF.out
            clear FF hdg hw Iq
            go_enter Tryd.func19, Tryd.ntmps19
            go_wp2_with fail
            refine (R _).mono ?_
            rintro e w1 ⟨rfl, hb⟩
            obtain ⟨k1, ⟨c0, c1, c2, c3, c4⟩, hf, kb1⟩ := own5 hb
            have k0 := hid k1
            have kb := hid kb1
            clear hb k1 kb1
            go_wp2_with (first | (go_at_call 21; refine (Dg _).mono ?_; rintro e w' ⟨rfl, rfl⟩) | (go_at_call 14; refine (Wq _).mono ?_; rintro e w' ⟨rfl, rfl⟩))
            try simp only [Exit.inBlock, Exit.then]
            refine bodyPost_ret (results_row_tmp (P := Tryd.prog) rfl _ _ w.heap.size _ _ _ _ rfl (k0.out.set5 _ _ _ _ _) Tryd.underlying35 rfl (by kernel_rfl)) rfl ?_
            exact ⟨by rw [F.out]; rfl, below_set5 kb.out (Nat.le_refl _) _ _ _ _ _⟩
          · rw [hw] at Wq FF
            have F : Hid (firstV (c :: r) = okV 2 (c :: m) 0) := hid FF.out
            clear FF hdg hw Iq
            go_enter Tryd.func19, Tryd.ntmps19
            go_wp2_with fail
            refine (R _).mono ?_
            rintro e w1 ⟨rfl, hb⟩
            obtain ⟨k1, ⟨c0, c1, c2, c3, c4⟩, hf, kb1⟩ := own5 hb
            have k0 := hid k1
            have kb := hid kb1
            clear hb k1 kb1
            go_wp2_with (first | (go_at_call 21; refine (Dg _).mono ?_; rintro e w' ⟨rfl, rfl⟩) | (go_at_call 14; refine (Wq _).mono ?_; rintro e w' ⟨rfl, rfl⟩))
            try simp only [Exit.inBlock, Exit.then]
            refine bodyPost_ret (results_row_tmp (P := Tryd.prog) rfl _ _ w.heap.size _ _ _ _ rfl (k0.out.set5 _ _ _ _ _) Tryd.underlying35 rfl (by kernel_rfl)) rfl ?_
            exact ⟨by rw [F.out]; rfl, below_set5 kb.out (Nat.le_refl _) _ _ _ _ _⟩
        · rw [hdg] at Dg FF
          have F : Hid (firstV (c :: r) = intV (c :: m)) := hid FF.out
          obtain ⟨tk, tt, tn, tb, e0⟩ := tup_int (c :: m)
          rw [e0] at Iq
          have e0 := hid e0
          clear FF hdg Wq
          go_enter Tryd.func19, Tryd.ntmps19
          go_wp2_with fail
          refine (R _).mono ?_
          rintro e w1 ⟨rfl, hb1⟩
          have Iq := Iq w1 (kept.out w1 hb1).1
          go_wp2_with (go_at_call 21; refine (Dg _).mono ?_; rintro e w' ⟨rfl, rfl⟩)
          refine Iq.mono ?_
          rintro e w' ⟨rfl, hb2⟩
          have hb := Below.over hb1 hb2
          clear hb1 hb2
          obtain ⟨k1, ⟨c0, c1, c2, c3, c4⟩, hf, kb1⟩ := own5 hb
          have k0 := hid k1
          have kb := hid kb1
          clear hb k1 kb1
          go_wp2
          try simp only [Exit.inBlock, Exit.then]
          refine bodyPost_ret (results_row_tmp (P := Tryd.prog) rfl _ _ w.heap.size _ _ _ _ rfl (k0.out.set5 _ _ _ _ _) Tryd.underlying35 rfl (by kernel_rfl)) rfl ?_
          exact ⟨by rw [F.out, e0.out]; rfl, below_set5 kb.out (Nat.le_refl _) _ _ _ _ _⟩
end Go.Proofs.YtdankjkmgcclhaaDoor
