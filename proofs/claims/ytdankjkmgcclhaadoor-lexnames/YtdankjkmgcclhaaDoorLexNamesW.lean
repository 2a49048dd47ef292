/- The walk of the law LexNames. -/
import Derived.Test.YtdankjkmgcclhaaDoorRefs
import Derived.Deep.QuietTactic
import Derived.BigQuiet
import Derived.Deep.CutBlock
import Derived.Deep.CutRange
import Derived.Deep.DeepCutAuto
namespace Go.Proofs.YtdankjkmgcclhaaDoor.lexNames
open Go.ChangeShapes Go.WideShapes Go.ChangeAt Go.RowKit
set_option linter.unusedVariables false

theorem gap_part (c : UInt8) (r : List UInt8) (h : isPart c = true) : gapN false (c :: r) = 0 := by
  have key : ∀ x : UInt8, isPart x = false → c ≠ x := fun x hx e => by rw [e, hx] at h; cases h
  refine gap_stop c r (key 10 (by decide)) ?_ ?_
  · rintro (e | e | e)
    · exact key 32 (by decide) e
    · exact key 9 (by decide) e
    · exact key 13 (by decide) e
  · cases hp : preB [47, 47] (c :: r)
    · rfl
    · obtain ⟨s, hs⟩ := (preB_iff _ _).1 hp
      simp at hs
      exact absurd hs.1 (key 47 (by decide))

theorem while_all (l : List UInt8) (h : l.all isPart = true) : l.takeWhile isPart = l := by
  induction l with
  | nil => rfl
  | cons c r ih =>
    simp only [List.all_cons, Bool.and_eq_true] at h
    rw [List.takeWhile_cons, if_pos h.1, ih h.2]

theorem lex_end (p : Nat × Nat) : lexF 1 [] p = .ok [⟨0, [], 0, p.1, p.2⟩] := rfl

/-- A name, or a word, is one token. -/
theorem one_of (l : List UInt8) (k : Nat) (hk : k ≠ 0) (h0 : l.all isPart = true) (hf : firstT l = some (k, l, 0)) (hne : l ≠ []) : ∃ e, lexL l = .ok [⟨k, l, 0, 1, 1⟩, e] := by
  cases l with
  | nil => exact absurd rfl hne
  | cons c r =>
    have hc : isPart c = true := by simp only [List.all_cons, Bool.and_eq_true] at h0; exact h0.1
    have hg := gap_part c r hc
    refine ⟨⟨0, [], 0, (adv (1, 1) (c :: r)).1, (adv (1, 1) (c :: r)).2⟩, ?_⟩
    rw [lexL, lex_step, hg]
    simp only [List.drop_zero, List.take_zero, hf, if_neg hk, List.drop_length, List.length_nil, adv_nil, Nat.zero_add]
    rfl

theorem first_word (l : List UInt8) (h : isWord l = true) : l.all isPart = true ∧ firstT l = some (2, l, 0) ∧ l ≠ [] := by
  have key : ∀ x ∈ wordsL, x.all isPart = true ∧ firstT x = some (2, x, 0) ∧ x ≠ [] := by decide +kernel
  rw [isWord, List.contains_iff_mem] at h
  exact key l h

theorem first_name (l : List UInt8) (h : isName l = true) : l.all isPart = true ∧ firstT l = some (1, l, 0) ∧ l ≠ [] := by
  cases l with
  | nil => cases h
  | cons c r =>
    simp only [isName, Bool.and_eq_true, Bool.not_eq_true'] at h
    obtain ⟨⟨h1, h2⟩, h3⟩ := h
    have hc : isPart c = true := by simp only [List.all_cons, Bool.and_eq_true] at h2; exact h2.1
    have n35 : c ≠ 35 := fun e => by rw [e] at hc; exact absurd hc (by decide)
    refine ⟨h2, ?_, by simp⟩
    have hw := while_all _ h2
    have hr : runOf isPart (c :: r) ≠ 0 := by rw [runOf, hw]; simp
    simp only [firstT, if_neg n35, if_neg hr, hw, h1, h3]
    rfl

theorem lex_ne (l : List UInt8) (ts : List Tok) (h : lexL l = .ok ts) : 1 ≤ ts.length := by
  rw [lexL, lex_step] at h
  split at h
  · cases h
  · split at h
    · cases h; simp
    · cases hq : lexF (((l.drop (gapN false l)).drop _).length + 1) ((l.drop (gapN false l)).drop _) (adv (adv (1, 1) (l.take (gapN false l))) _) with
      | error e => rw [hq] at h; cases h
      | ok us => rw [hq] at h; cases h; simp

/-- One token that is all of the text, of kind 1 or 2, is a name, or a word. -/
theorem of_one (l : List UInt8) (t e : Tok) (h : lexL l = .ok [t, e]) (ht : t.text = l) (hk : t.kind = 1 ∨ t.kind = 2) : (isName l || isWord l) = true := by
  rw [lexL, lex_step] at h
  cases hf : firstT (l.drop (gapN false l)) with
  | none => rw [hf] at h; cases h
  | some x =>
    obtain ⟨k, x, n⟩ := x
    rw [hf] at h
    simp only at h
    by_cases hk0 : k = 0
    · rw [if_pos hk0] at h; cases h
    · rw [if_neg hk0] at h
      rcases first_spec hf with ⟨h0, _⟩ | ⟨_, h1, ⟨r, hr⟩, _⟩
      · exact absurd h0 hk0
      · cases hq : lexF (((l.drop (gapN false l)).drop x.length).length + 1) ((l.drop (gapN false l)).drop x.length) (adv (adv (1, 1) (l.take (gapN false l))) x) with
        | error e => rw [hq] at h; cases h
        | ok us =>
          rw [hq] at h
          simp only [preT, Except.ok.injEq, List.cons_append, List.nil_append, List.cons.injEq] at h
          obtain ⟨h2, _⟩ := h
          subst h2
          simp only at ht hk
          subst ht
          have hl := congrArg List.length hr
          simp at hl
          have hg : gapN false x = 0 := by omega
          rw [hg, List.drop_zero] at hf
          clear hq hr hl hg hk0
          cases x with
          | nil => simp at h1
          | cons c r' =>
            simp only [firstT] at hf
            by_cases hc : c = 35
            · rw [if_pos hc] at hf
              split at hf
              · simp only [Option.some.injEq, Prod.mk.injEq] at hf
                omega
              · cases hf
            · rw [if_neg hc] at hf
              by_cases hz : runOf isPart (c :: r') = 0
              · rw [if_pos hz] at hf
                cases hs : signAt (c :: r') with
                | none => rw [hs] at hf; cases hf
                | some y =>
                  rw [hs] at hf
                  simp only [Option.some.injEq, Prod.mk.injEq] at hf
                  omega
              · rw [if_neg hz] at hf
                by_cases hd : isDig c = true
                · rw [if_pos hd] at hf
                  cases hi : intN ((c :: r').takeWhile isPart) with
                  | none => rw [hi] at hf; cases hf
                  | some m =>
                    rw [hi] at hf
                    simp only [Option.some.injEq, Prod.mk.injEq] at hf
                    omega
                · rw [if_neg hd] at hf
                  by_cases hw : isWord ((c :: r').takeWhile isPart) = true
                  · rw [if_pos hw] at hf
                    simp only [Option.some.injEq, Prod.mk.injEq] at hf
                    rw [hf.2.1] at hw
                    rw [hw]; simp
                  · rw [if_neg hw] at hf
                    simp only [Option.some.injEq, Prod.mk.injEq] at hf
                    have hall : (c :: r').all isPart = true := by
                      rw [← hf.2.1, List.all_eq_true]
                      exact while_part _
                    rw [hf.2.1] at hw
                    have hd' : isDig c = false := by simpa using hd
                    have hw' : isWord (c :: r') = false := by simpa using hw
                    have : isName (c :: r') = true := by simp only [isName, hd', hall, hw']; rfl
                    rw [this]; rfl

theorem not_both (l : List UInt8) : (isName l && isWord l) = false := by
  cases l with
  | nil => rfl
  | cons c r => cases h : isWord (c :: r) <;> simp [isName, h]

set_option maxRecDepth 100000 in
set_option maxHeartbeats 4000000 in
theorem walk (a0 : ByteArray) (w : World) (z0 : a0.size ≤ maxLen) (h : Errs w) (h' : Signs w) : Calls Tryd.prog 4 #[.string a0] w fun e w' => e = .returned (.bool true) ∧ Below w.heap.size w w' := by
  obtain ⟨l, rfl⟩ : ∃ l, a0 = bstr l := ⟨_, (bstr_of a0).symm⟩
  have s1 := bstr_size l
  have tl := toList_bstr l
  have A := alive_any w h h'
  by_cases hl : l.length ≤ 1000
  · have C13 := fun W => isName_any l W
    have C14 : ∀ W, Calls Tryd.prog 14 #[.string (bstr l)] W fun e w' => e = .returned (.bool (isWord l)) ∧ w' = W := fun W => by
      have := isWord_any (bstr l) W
      rwa [bstr_list] at this
    have C15 := fun W => refName_any l (by omega) W
    have C16 := fun W => refWord_any l W
    have C10 := fun W hW hW' => lex_any l (by omega) W hW hW'
    have nb := hid (not_both l)
    have name1 : Hid (isName l = true → ∃ e, lexL l = .ok [⟨1, l, 0, 1, 1⟩, e]) := hid (fun hn => by
      obtain ⟨n1, n2, n3⟩ := first_name l hn
      exact one_of l 1 (by decide) n1 n2 n3)
    have word1 : Hid (isWord l = true → ∃ e, lexL l = .ok [⟨2, l, 0, 1, 1⟩, e]) := hid (fun hn => by
      obtain ⟨n1, n2, n3⟩ := first_word l hn
      exact one_of l 2 (by decide) n1 n2 n3)
    have back := hid (of_one l)
    have ne := hid (lex_ne l)
    generalize isName l = nm at *
    generalize isWord l = wd at *
    rcases nm with _ | _ <;> rcases wd with _ | _
    · have no : Hid (∀ t e : Tok, lexL l = .ok [t, e] → t.text = l → t.kind ≠ 1 ∧ t.kind ≠ 2) := hid (fun t e h1 h2 => by
        constructor
        · intro hk
          exact absurd (back.out t e h1 h2 (Or.inl hk)) (by decide)
        · intro hk
          exact absurd (back.out t e h1 h2 (Or.inr hk)) (by decide))
      clear name1 word1 back nb
      go_enter Tryd.func4, Tryd.ntmps4
      go_wp2_with fail
      refine A.mono ?_
      rintro e w1 ⟨rfl, b1⟩
      go_wp2_with fail
      refine (C13 _).mono ?_
      rintro e w2 ⟨rfl, b2⟩
      go_wp2_with fail
      refine (C14 _).mono ?_
      rintro e w' ⟨rfl, rfl⟩
      go_wp2_with fail
      refine (C15 _).mono ?_
      rintro e w3 ⟨rfl, b3⟩
      go_wp2_with fail
      refine (C16 _).mono ?_
      rintro e w4 ⟨rfl, b4⟩
      have b04 := Below.over (Below.over (Below.over b1 b2) b3) b4
      have C10 := C10 w4 (h.kept b04) (h'.kept b04)
      have b04 := hid b04
      clear b1 b2 b3 b4 C13 C14 C15 C16 A
      go_wp2_with fail
      refine C10.mono ?_
      rintro e w5 ⟨r, rfl, ha, b5⟩
      have b05 := hid (Below.over b04.out b5)
      clear b5 C10 b04
      cases hx : lexL l with
      | error p =>
        rw [LexAns, hx] at ha
        subst ha
        have hv : faultV 3 p.1 p.2 = .agg #[.int .i64 3, .int .i64 p.1, .int .i64 p.2] := rfl
        rw [hv]
        clear hx no ne tl
        go_wp2
        go_ret
        exact ⟨rfl, b05.out.alloc b05.out.size _⟩
      | ok ts =>
        have hne := ne.out ts hx
        rw [LexAns, hx] at ha
        obtain ⟨v, rfl, own⟩ := ha
        obtain ⟨g, c, rfl, hg1, hg2⟩ := row_slice own (by omega)
        have R := rowAt_of own rfl
        have hv : faultV 0 0 0 = .agg #[.int .i64 0, .int .i64 0, .int .i64 0] := rfl
        rw [hv]
        by_cases h2 : ts.length = 2
        · obtain ⟨t, e2, rfl⟩ : ∃ t e2, ts = [t, e2] := by
            match ts, h2 with
            | [t, e2], _ => exact ⟨t, e2, rfl⟩
          have c0 : ∀ o, (w5.alloc o).cell? ⟨g, 0, none⟩ = some (.int .i64 t.kind) := fun o => (World.cell?_alloc_lt (w := w5) (a := ⟨g, 0, none⟩) (o := o) hg2).trans (R 0 _ rfl 0 _ rfl)
          have c1 : ∀ o, (w5.alloc o).cell? ⟨g, 1, none⟩ = some (.string (bstr t.text)) := fun o => (World.cell?_alloc_lt (w := w5) (a := ⟨g, 1, none⟩) (o := o) hg2).trans (R 0 _ rfl 1 _ rfl)
          by_cases ht : t.text = l
          · obtain ⟨k1, k2⟩ := no.out t e2 hx ht
            have tt : ((bstr t.text).toList == (bstr l).toList) = true := by rw [ht]; simp
            have q1 : ((t.kind : Int) == 1) = false := by rw [beq_eq_false_iff_ne]; omega
            have q2 : ((t.kind : Int) == 2) = false := by rw [beq_eq_false_iff_ne]; omega
            clear R own hx no ne tl ht k1 k2
            go_wp2
            go_ret
            exact ⟨rfl, b05.out.alloc b05.out.size _⟩
          · have tt : ((bstr t.text).toList == (bstr l).toList) = false := by rw [toList_bstr, toList_bstr]; exact beq_eq_false_iff_ne.2 ht
            clear R own hx no ne tl ht
            go_wp2
            go_ret
            exact ⟨rfl, b05.out.alloc b05.out.size _⟩
        · have q1 : ((ts.length : Int) == 2) = false := by rw [beq_eq_false_iff_ne]; omega
          clear R own hx no ne tl h2
          go_wp2
          go_ret
          exact ⟨rfl, b05.out.alloc b05.out.size _⟩
    · obtain ⟨e2, hx⟩ := word1.out rfl
      go_enter Tryd.func4, Tryd.ntmps4
      go_wp2_with fail
      refine A.mono ?_
      rintro e w1 ⟨rfl, b1⟩
      go_wp2_with fail
      refine (C13 _).mono ?_
      rintro e w2 ⟨rfl, b2⟩
      go_wp2_with fail
      refine (C14 _).mono ?_
      rintro e w' ⟨rfl, rfl⟩
      go_wp2_with fail
      refine (C15 _).mono ?_
      rintro e w3 ⟨rfl, b3⟩
      go_wp2_with fail
      refine (C16 _).mono ?_
      rintro e w4 ⟨rfl, b4⟩
      have b04 := Below.over (Below.over (Below.over b1 b2) b3) b4
      have C10 := C10 w4 (h.kept b04) (h'.kept b04)
      have b04 := hid b04
      clear b1 b2 b3 b4 C13 C14 C15 C16 A
      go_wp2_with fail
      refine C10.mono ?_
      rintro e w5 ⟨r, rfl, ha, b5⟩
      have b05 := hid (Below.over b04.out b5)
      clear b5 C10 b04
      rw [LexAns, hx] at ha
      obtain ⟨v, rfl, own⟩ := ha
      obtain ⟨g, c, rfl, hg1, hg2⟩ := row_slice own (Nat.succ_pos _)
      have R := rowAt_of own rfl
      have hv : faultV 0 0 0 = .agg #[.int .i64 0, .int .i64 0, .int .i64 0] := rfl
      rw [hv]
      have c0 : ∀ o, (w5.alloc o).cell? ⟨g, 0, none⟩ = some (.int .i64 2) := fun o => (World.cell?_alloc_lt (w := w5) (a := ⟨g, 0, none⟩) (o := o) hg2).trans (R 0 _ rfl 0 _ rfl)
      have c1 : ∀ o, (w5.alloc o).cell? ⟨g, 1, none⟩ = some (.string (bstr l)) := fun o => (World.cell?_alloc_lt (w := w5) (a := ⟨g, 1, none⟩) (o := o) hg2).trans (R 0 _ rfl 1 _ rfl)
      have tt : ((bstr l).toList == (bstr l).toList) = true := by simp
      clear R own hx name1 word1 back ne tl
      go_wp2
      go_ret
      exact ⟨rfl, b05.out.alloc b05.out.size _⟩
    · obtain ⟨e2, hx⟩ := name1.out rfl
      go_enter Tryd.func4, Tryd.ntmps4
      go_wp2_with fail
      refine A.mono ?_
      rintro e w1 ⟨rfl, b1⟩
      go_wp2_with fail
      refine (C13 _).mono ?_
      rintro e w2 ⟨rfl, b2⟩
      go_wp2_with fail
      refine (C14 _).mono ?_
      rintro e w' ⟨rfl, rfl⟩
      go_wp2_with fail
      refine (C15 _).mono ?_
      rintro e w3 ⟨rfl, b3⟩
      go_wp2_with fail
      refine (C16 _).mono ?_
      rintro e w4 ⟨rfl, b4⟩
      have b04 := Below.over (Below.over (Below.over b1 b2) b3) b4
      have C10 := C10 w4 (h.kept b04) (h'.kept b04)
      have b04 := hid b04
      clear b1 b2 b3 b4 C13 C14 C15 C16 A
      go_wp2_with fail
      refine C10.mono ?_
      rintro e w5 ⟨r, rfl, ha, b5⟩
      have b05 := hid (Below.over b04.out b5)
      clear b5 C10 b04
      rw [LexAns, hx] at ha
      obtain ⟨v, rfl, own⟩ := ha
      obtain ⟨g, c, rfl, hg1, hg2⟩ := row_slice own (Nat.succ_pos _)
      have R := rowAt_of own rfl
      have hv : faultV 0 0 0 = .agg #[.int .i64 0, .int .i64 0, .int .i64 0] := rfl
      rw [hv]
      have c0 : ∀ o, (w5.alloc o).cell? ⟨g, 0, none⟩ = some (.int .i64 1) := fun o => (World.cell?_alloc_lt (w := w5) (a := ⟨g, 0, none⟩) (o := o) hg2).trans (R 0 _ rfl 0 _ rfl)
      have c1 : ∀ o, (w5.alloc o).cell? ⟨g, 1, none⟩ = some (.string (bstr l)) := fun o => (World.cell?_alloc_lt (w := w5) (a := ⟨g, 1, none⟩) (o := o) hg2).trans (R 0 _ rfl 1 _ rfl)
      have tt : ((bstr l).toList == (bstr l).toList) = true := by simp
      clear R own hx name1 word1 back ne tl
      go_wp2
      go_ret
      exact ⟨rfl, b05.out.alloc b05.out.size _⟩
    · exact absurd nb.out (by decide)
  · go_enter Tryd.func4, Tryd.ntmps4
    go_wp2_with (go_at_call 9; refine A.mono ?_; rintro e w1 ⟨rfl, b1⟩)
    go_ret
    exact ⟨rfl, by assumption⟩
end Go.Proofs.YtdankjkmgcclhaaDoor.lexNames
