/- A text's tokens, plainly. -/
import Derived.Test.YtdankjkmgcclhaaDoorFst
import Derived.Test.YtdankjkmgcclhaaDoorGap
namespace Go.Proofs.YtdankjkmgcclhaaDoor
open Go.ChangeShapes Go.WideShapes Go.ChangeAt Go.RowKit
set_option linter.unusedVariables false

/-- A token. -/
structure Tok where
  kind : Nat
  text : List UInt8
  n : Nat
  line : Nat
  col : Nat

def Tok.cells (t : Tok) : List Value := tokC t.kind t.text t.n t.line t.col
def cellsT (ts : List Tok) : List Value := ts.flatMap Tok.cells

theorem cells_len (t : Tok) : t.cells.length = 5 := rfl
theorem cellsT_len (ts : List Tok) : (cellsT ts).length = ts.length * 5 := by
  induction ts with
  | nil => rfl
  | cons t ts ih => simp only [cellsT, List.flatMap_cons, List.length_append, cells_len, List.length_cons] at ih ⊢; omega
theorem cellsT_app (a b : List Tok) : cellsT (a ++ b) = cellsT a ++ cellsT b := List.flatMap_append ..

/-- Tokens ahead of what comes. -/
def preT (ts : List Tok) : Except (Nat × Nat) (List Tok) → Except (Nat × Nat) (List Tok)
  | .ok us => .ok (ts ++ us)
  | .error p => .error p

theorem preT_nil (o : Except (Nat × Nat) (List Tok)) : preT [] o = o := by cases o <;> rfl
theorem preT_app (a b : List Tok) (o : Except (Nat × Nat) (List Tok)) : preT a (preT b o) = preT (a ++ b) o := by cases o <;> simp [preT]

/-- The tokens of letters, from a place on; or the place of what is none. -/
def lexF : Nat → List UInt8 → Nat × Nat → Except (Nat × Nat) (List Tok)
  | 0, _, p => .error p
  | f + 1, l, p => match firstT (l.drop (gapN false l)) with
    | none => .error (adv p (l.take (gapN false l)))
    | some (k, t, n) =>
      if k = 0 then .ok [⟨k, t, n, (adv p (l.take (gapN false l))).1, (adv p (l.take (gapN false l))).2⟩]
      else preT [⟨k, t, n, (adv p (l.take (gapN false l))).1, (adv p (l.take (gapN false l))).2⟩] (lexF f ((l.drop (gapN false l)).drop t.length) (adv (adv p (l.take (gapN false l))) t))

theorem preB_iff (p l : List UInt8) : preB p l = true ↔ ∃ r, l = p ++ r := by
  simp only [preB, beq_iff_eq]
  constructor
  · intro h
    exact ⟨l.drop p.length, by rw [← h]; conv => lhs; rw [← List.take_append_drop p.length l]
                               rw [h]⟩
  · rintro ⟨r, rfl⟩
    simp

theorem while_app (p : UInt8 → Bool) (l : List UInt8) : ∃ r, l = l.takeWhile p ++ r := ⟨l.dropWhile p, (List.takeWhile_append_dropWhile ..).symm⟩

theorem part_no10 (l : List UInt8) (h : ∀ c ∈ l, isPart c = true) : 10 ∉ l := fun hm => by
  have := h 10 hm
  exact absurd this (by decide)
theorem while_part (l : List UInt8) : ∀ c ∈ l.takeWhile isPart, isPart c = true := fun c hc => by
  induction l with
  | nil => simp at hc
  | cons a l ih =>
    simp only [List.takeWhile_cons] at hc
    split at hc
    · simp only [List.mem_cons] at hc
      rcases hc with rfl | hc
      · assumption
      · exact ih hc
    · simp at hc

theorem sign_mem {l x : List UInt8} (h : signAt l = some x) : x ∈ signsL ∧ preB x l = true := by
  unfold signAt at h
  have := List.find?_some h
  exact ⟨List.mem_of_find?_eq_some h, by simpa using this⟩

/-- What a token with which letters begin is like. -/
theorem first_spec {l t : List UInt8} {k n : Nat} (h : firstT l = some (k, t, n)) : (k = 0 ∧ l = [] ∧ t = [] ∧ n = 0) ∨ (k ≠ 0 ∧ 1 ≤ t.length ∧ (∃ r, l = t ++ r) ∧ 10 ∉ t) := by
  cases l with
  | nil =>
    simp only [firstT, Option.some.injEq, Prod.mk.injEq] at h
    exact Or.inl ⟨h.1.symm, rfl, h.2.1.symm, h.2.2.symm⟩
  | cons c r =>
    right
    have hw := while_app isPart (c :: r)
    have hp := part_no10 _ (while_part (c :: r))
    have hlen : ∀ (h : ¬ runOf isPart (c :: r) = 0), 1 ≤ ((c :: r).takeWhile isPart).length := fun h => by unfold runOf at h; omega
    simp only [firstT] at h
    by_cases hc : c = 35
    · rw [if_pos hc] at h
      split at h
      · simp only [Option.some.injEq, Prod.mk.injEq] at h
        obtain ⟨rfl, rfl, rfl⟩ := h
        obtain ⟨r', hr'⟩ := while_app isPart r
        refine ⟨by decide, by simp, ⟨r', by rw [List.cons_append, ← hr']⟩, ?_⟩
        simp only [List.mem_cons, not_or]
        exact ⟨by rw [hc]; decide, part_no10 _ (while_part r)⟩
      · cases h
    · rw [if_neg hc] at h
      by_cases hz : runOf isPart (c :: r) = 0
      · rw [if_pos hz] at h
        cases hs : signAt (c :: r) with
        | none => rw [hs] at h; cases h
        | some x =>
          rw [hs] at h
          simp only [Option.some.injEq, Prod.mk.injEq] at h
          obtain ⟨rfl, rfl, rfl⟩ := h
          obtain ⟨hm, hpre⟩ := sign_mem hs
          have hall : ∀ x ∈ signsL, 1 ≤ x.length ∧ 10 ∉ x := by decide
          exact ⟨by decide, (hall x hm).1, (preB_iff _ _).1 hpre, (hall x hm).2⟩
      · rw [if_neg hz] at h
        by_cases hd : isDig c = true
        · rw [if_pos hd] at h
          cases hi : intN ((c :: r).takeWhile isPart) with
          | none => rw [hi] at h; cases h
          | some m =>
            rw [hi] at h
            simp only [Option.some.injEq, Prod.mk.injEq] at h
            obtain ⟨rfl, rfl, rfl⟩ := h
            exact ⟨by decide, hlen hz, hw, hp⟩
        · rw [if_neg hd] at h
          split at h
          all_goals
            simp only [Option.some.injEq, Prod.mk.injEq] at h
            obtain ⟨rfl, rfl, rfl⟩ := h
            exact ⟨by decide, hlen hz, hw, hp⟩

theorem lex_fuel (f g : Nat) (l : List UInt8) (p : Nat × Nat) (hf : l.length < f) (hg : l.length < g) : lexF f l p = lexF g l p := by
  induction f generalizing g l p with
  | zero => omega
  | succ f ih =>
    cases g with
    | zero => omega
    | succ g =>
      simp only [lexF]
      cases h : firstT (l.drop (gapN false l)) with
      | none => rfl
      | some x =>
        obtain ⟨k, t, n⟩ := x
        simp only
        by_cases hk : k = 0
        · rw [if_pos hk, if_pos hk]
        · rw [if_neg hk, if_neg hk]
          congr 1
          rcases first_spec h with ⟨h0, _⟩ | ⟨_, h1, ⟨r, hr⟩, _⟩
          · exact absurd h0 hk
          · have e : (l.drop (gapN false l)).drop t.length = r := by rw [hr]; simp
            have hl := congrArg List.length hr
            simp at hl
            rw [e]
            exact ih g r _ (by omega) (by omega)

/-- All of a text. -/
def lexL (l : List UInt8) : Except (Nat × Nat) (List Tok) := lexF (l.length + 1) l (1, 1)

/-- One token ahead. -/
theorem lex_step (l : List UInt8) (p : Nat × Nat) : lexF (l.length + 1) l p = match firstT (l.drop (gapN false l)) with
    | none => .error (adv p (l.take (gapN false l)))
    | some (k, t, n) =>
      if k = 0 then .ok [⟨k, t, n, (adv p (l.take (gapN false l))).1, (adv p (l.take (gapN false l))).2⟩]
      else preT [⟨k, t, n, (adv p (l.take (gapN false l))).1, (adv p (l.take (gapN false l))).2⟩] (lexF (((l.drop (gapN false l)).drop t.length).length + 1) ((l.drop (gapN false l)).drop t.length) (adv (adv p (l.take (gapN false l))) t)) := by
  rw [lexF]
  cases h : firstT (l.drop (gapN false l)) with
  | none => rfl
  | some x =>
    obtain ⟨k, t, n⟩ := x
    simp only
    by_cases hk : k = 0
    · rw [if_pos hk, if_pos hk]
    · rw [if_neg hk, if_neg hk]
      congr 1
      rcases first_spec h with ⟨h0, _⟩ | ⟨_, h1, ⟨r, hr⟩, _⟩
      · exact absurd h0 hk
      · have e : (l.drop (gapN false l)).drop t.length = r := by rw [hr]; simp
        have hl := congrArg List.length hr
        simp at hl
        rw [e]
        exact lex_fuel _ _ r _ (by omega) (by omega)
end Go.Proofs.YtdankjkmgcclhaaDoor
