/- Tokens stay what they are, whatever stands behind them, if a blank or a line feed stands between. -/
import Derived.Test.YtdankjkmgcclhaaDoorLexm
namespace Go.Proofs.YtdankjkmgcclhaaDoor
open Go.ChangeShapes Go.WideShapes Go.ChangeAt Go.RowKit
set_option linter.unusedVariables false

/-- What a gap of nought says. -/
theorem gap_zero {c : UInt8} {r : List UInt8} (h : gapN false (c :: r) = 0) : c ≠ 10 ∧ ¬ (c = 32 ∨ c = 9 ∨ c = 13) ∧ preB [47, 47] (c :: r) = false := by
  simp only [gapN] at h
  by_cases h1 : c = 10
  · rw [if_pos h1] at h; omega
  · rw [if_neg h1] at h
    by_cases h2 : false = true ∨ c = 32 ∨ c = 9 ∨ c = 13
    · rw [if_pos h2] at h; omega
    · rw [if_neg h2] at h
      refine ⟨h1, fun e => h2 (Or.inr e), ?_⟩
      cases hp : preB [47, 47] (c :: r)
      · rfl
      · rw [if_pos hp] at h; omega

theorem gap_drop (b : Bool) (l : List UInt8) : gapN false (l.drop (gapN b l)) = 0 := by
  induction l generalizing b with
  | nil => simp [gapN]
  | cons c r ih =>
    by_cases h1 : c = 10
    · subst h1
      rw [gap_nl, List.drop_succ_cons]
      exact ih false
    · by_cases h2 : b = true ∨ c = 32 ∨ c = 9 ∨ c = 13
      · have e : gapN b (c :: r) = gapN b r + 1 := by rw [gapN, if_neg h1, if_pos h2]
        rw [e, List.drop_succ_cons]
        exact ih b
      · have hb : b = false := by cases b; rfl; exact absurd (Or.inl rfl) h2
        subst hb
        cases hp : preB [47, 47] (c :: r)
        · have h3 : ¬ (c = 32 ∨ c = 9 ∨ c = 13) := fun e => h2 (Or.inr e)
          rw [gap_stop c r h1 h3 hp, List.drop_zero, gap_stop c r h1 h3 hp]
        · rw [gap_note c r hp, List.drop_succ_cons]
          exact ih true

theorem gap_tok (t r r' : List UInt8) (s : UInt8) (hs : s ≠ 47) (h1 : 1 ≤ t.length) (h : gapN false (t ++ r) = 0) : gapN false (t ++ s :: r') = 0 := by
  cases t with
  | nil => simp at h1
  | cons c t =>
    obtain ⟨a1, a2, a3⟩ := gap_zero h
    refine gap_stop c _ a1 a2 ?_
    cases hp : preB [47, 47] (c :: (t ++ s :: r'))
    · rfl
    · obtain ⟨q, hq⟩ := (preB_iff _ _).1 hp
      cases t with
      | nil =>
        simp at hq
        exact absurd hq.2.1 hs
      | cons d t =>
        simp only [List.cons_append, List.nil_append, List.cons.injEq] at hq
        obtain ⟨rfl, rfl, _⟩ := hq
        have : preB [47, 47] (47 :: 47 :: (t ++ r)) = true := (preB_iff _ _).2 ⟨t ++ r, rfl⟩
        exact absurd (a3.symm.trans this) (by decide)

theorem while_sep (d r : List UInt8) (s : UInt8) (h : ∀ c ∈ d, isPart c = true) (hs : isPart s = false) : (d ++ s :: r).takeWhile isPart = d := by
  induction d with
  | nil => simp [hs]
  | cons c d ih =>
    have hc := h c (by simp)
    rw [List.cons_append, List.takeWhile_cons, if_pos hc, ih (fun x hx => h x (by simp [hx]))]

/-- A blank or a line feed. -/
def Sep (s : UInt8) : Prop := s = 10 ∨ s = 32

theorem sep_part {s : UInt8} (h : Sep s) : isPart s = false := by rcases h with rfl | rfl <;> decide
theorem sep_47 {s : UInt8} (h : Sep s) : s ≠ 47 := by rcases h with rfl | rfl <;> decide

theorem sign_sep {x : List UInt8} (hx : x ∈ signsL) {s : UInt8} (hs : Sep s) (r : List UInt8) : signAt (x ++ s :: r) = some x := by
  simp only [signsL, List.mem_cons, List.not_mem_nil, or_false] at hx
  rcases hs with rfl | rfl <;> rcases hx with rfl | rfl | rfl | rfl | rfl | rfl | rfl | rfl | rfl | rfl | rfl | rfl | rfl | rfl | rfl | rfl | rfl | rfl | rfl | rfl <;> rfl

/-- The same token, whatever stands behind. -/
theorem first_sep {t r : List UInt8} {k n : Nat} (h : firstT (t ++ r) = some (k, t, n)) (hk : k ≠ 0) {s : UInt8} (hs : Sep s) (r' : List UInt8) : firstT (t ++ s :: r') = some (k, t, n) := by
  rcases first_spec h with ⟨h0, _⟩ | ⟨_, h1, _, _⟩
  · exact absurd h0 hk
  · cases t with
    | nil => simp at h1
    | cons c d =>
      simp only [List.cons_append, firstT] at h ⊢
      by_cases hc : c = 35
      · rw [if_pos hc] at h ⊢
        split at h
        · rename_i hq
          simp only [Option.some.injEq, Prod.mk.injEq, List.cons.injEq, true_and] at h
          obtain ⟨rfl, hd, rfl⟩ := h
          have hp : ∀ x ∈ d, isPart x = true := by rw [← hd]; exact while_part _
          rw [while_sep d r' s hp (sep_part hs)]
          rw [hd] at hq ⊢
          rw [if_pos hq]
        · cases h
      · rw [if_neg hc] at h ⊢
        by_cases hz : runOf isPart (c :: (d ++ r)) = 0
        · have hcp : isPart c = false := by
            cases hp : isPart c
            · rfl
            · simp [runOf, hp] at hz
          have hz' : runOf isPart (c :: (d ++ s :: r')) = 0 := by simp [runOf, hcp]
          rw [if_pos hz] at h
          rw [if_pos hz']
          cases hsg : signAt (c :: (d ++ r)) with
          | none => rw [hsg] at h; cases h
          | some x =>
            rw [hsg] at h
            simp only [Option.some.injEq, Prod.mk.injEq] at h
            obtain ⟨rfl, hx, rfl⟩ := h
            have hm := (sign_mem hsg).1
            rw [hx] at hm
            have := sign_sep hm hs r'
            rw [List.cons_append] at this
            rw [this]
        · rw [if_neg hz] at h
          have hpos : (c :: (d ++ r)).takeWhile isPart = c :: d := by
            by_cases hd : isDig c = true
            · rw [if_pos hd] at h
              cases hi : intN ((c :: (d ++ r)).takeWhile isPart) with
              | none => rw [hi] at h; cases h
              | some m =>
                rw [hi] at h
                simp only [Option.some.injEq, Prod.mk.injEq] at h
                exact h.2.1
            · rw [if_neg hd] at h
              split at h
              all_goals
                simp only [Option.some.injEq, Prod.mk.injEq] at h
                exact h.2.1
          have hp : ∀ x ∈ c :: d, isPart x = true := by rw [← hpos]; exact while_part _
          have hw := while_sep (c :: d) r' s hp (sep_part hs)
          rw [List.cons_append] at hw
          have hz' : ¬ runOf isPart (c :: (d ++ s :: r')) = 0 := by rw [runOf, hw]; simp
          rw [if_neg hz', hw]
          rw [hpos] at h
          exact h

/-- A token that stays what it is. -/
structure Stab (x : Tok) : Prop where
  kind : x.kind ≠ 0
  len : 1 ≤ x.text.length
  line : 10 ∉ x.text
  gap : ∀ s r, Sep s → gapN false (x.text ++ s :: r) = 0
  first : ∀ s r, Sep s → firstT (x.text ++ s :: r) = some (x.kind, x.text, x.n)

/-- Of a text that has tokens the last one is the end, and all others stay what they are. -/
theorem lex_toks (f : Nat) (l : List UInt8) (p : Nat × Nat) (ts : List Tok) (h : lexF f l p = .ok ts) : ∃ xs e, ts = xs ++ [e] ∧ e.kind = 0 ∧ e.text = [] ∧ e.n = 0 ∧ ∀ x ∈ xs, Stab x := by
  induction f generalizing l p ts with
  | zero => cases h
  | succ f ih =>
    rw [lexF] at h
    cases hf : firstT (l.drop (gapN false l)) with
    | none => rw [hf] at h; cases h
    | some x =>
      obtain ⟨k, t, n⟩ := x
      rw [hf] at h
      simp only at h
      by_cases hk : k = 0
      · rw [if_pos hk] at h
        cases h
        rcases first_spec hf with ⟨_, _, h2, h3⟩ | ⟨h0, _⟩
        · exact ⟨[], _, rfl, hk, h2, h3, by simp⟩
        · exact absurd hk h0
      · rw [if_neg hk] at h
        rcases first_spec hf with ⟨h0, _⟩ | ⟨_, h1, ⟨r, hr⟩, h10⟩
        · exact absurd h0 hk
        · cases hq : lexF f ((l.drop (gapN false l)).drop t.length) (adv (adv p (l.take (gapN false l))) t) with
          | error e => rw [hq] at h; cases h
          | ok us =>
            rw [hq] at h
            cases h
            obtain ⟨xs, e, rfl, e1, e2, e3, hx⟩ := ih _ _ _ hq
            have hg := gap_drop false l
            rw [hr] at hf hg
            refine ⟨_ :: xs, e, rfl, e1, e2, e3, ?_⟩
            intro x hx'
            simp only [List.mem_cons] at hx'
            rcases hx' with rfl | hx'
            · exact ⟨hk, h1, h10, fun s r' hs => gap_tok t r r' s (sep_47 hs) h1 hg, fun s r' hs => first_sep hf hk hs r'⟩
            · exact hx x hx'
end Go.Proofs.YtdankjkmgcclhaaDoor
