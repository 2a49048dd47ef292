/- What is made of numbers has short names, and short rows. -/
import Derived.Test.YtfdfeiempeciiaaMake1
namespace Go.Proofs.Ytfdfeiempeciiaa
open Go.ChangeShapes Go.WideShapes Go.ChangeAt Go.RowKit
set_option linter.unusedVariables false

theorem nmV_size (k : Nat) : (nmV k).size = 1 := rfl
theorem empty_size : ({ data := #[] } : ByteArray).size = 0 := rfl
theorem placeM_field (N : List Int) (i : Nat) : (placeM N i).1.field.size ≤ 1 := by
  unfold placeM
  repeat' split
  all_goals first | exact Nat.le_refl _ | exact Nat.zero_le _

/-- A statement's own names are short, and so are its rows. -/
def St.small (s : St) : Prop := s.nm.size ≤ 1 ∧ s.place.field.size ≤ 1 ∧ s.body.length ≤ 3 ∧ s.els.length ≤ 3 ∧ s.args.length ≤ 3
theorem exprsL_len (N : List Int) (d k : Nat) : ∀ i, (exprsL N d k i).1.length = k := by
  induction k with
  | zero => intro i; rfl
  | succ k ih => intro i; simp [exprsL, ih]
theorem stmtO_small (N : List Int) (row : Nat → Nat → (List St × Nat) × Nat) (hr : ∀ i l, (row i l).1.1.length ≤ 3) (o i l : Nat) : (stmtO N row o i l).1.1.small := by
  have hp := placeM_field N i
  have h3 := pk_lt N 3 (nx N i) (by omega)
  unfold stmtO St.small
  repeat' split
  all_goals simp only [St.zero, Pl.zero, nmV_size, empty_size, List.length_nil, exprsL_len]
  all_goals first
    | (refine ⟨?_, ?_, ?_, ?_, ?_⟩ <;> first | omega | exact hr _ _)
theorem rowF_mem (stmt : Nat → Nat → (St × Nat) × Nat) (n : Nat) : ∀ i l, (rowF stmt n i l).1.1.length ≤ n ∧ ∀ s ∈ (rowF stmt n i l).1.1, ∃ i' l', s = (stmt i' l').1.1 := by
  induction n with
  | zero => intro i l; simp [rowF]
  | succ n ih =>
    intro i l
    unfold rowF
    split
    · simp
    · refine ⟨by simp only [List.length_cons]; have := (ih (stmt i (l - 1)).1.2 (stmt i (l - 1)).2).1; omega, fun s hs => ?_⟩
      simp only [List.mem_cons] at hs
      rcases hs with rfl | hs
      · exact ⟨_, _, rfl⟩
      · exact (ih _ _).2 s hs
theorem rowM_len (N : List Int) (d : Nat) : ∀ i l, (rowM N d i l).1.1.length ≤ 3 := by
  intro i l
  have h := pk_lt N 4 i (by omega)
  cases d with
  | zero => have := (rowF_mem (stmtF N true (fun i l => (([], i), l))) (pk N 4 i) (nx N i) l).1; unfold rowM; omega
  | succ d => have := (rowF_mem (stmtF N false (rowM N d)) (pk N 4 i) (nx N i) l).1; unfold rowM; omega
theorem rowM_small (N : List Int) (d : Nat) (i l : Nat) : ∀ s ∈ (rowM N d i l).1.1, s.small := by
  intro s hs
  cases d with
  | zero =>
    unfold rowM at hs
    obtain ⟨i', l', rfl⟩ := (rowF_mem _ _ _ _).2 s hs
    exact stmtO_small N _ (by intro i l; simp) _ _ _
  | succ d =>
    unfold rowM at hs
    obtain ⟨i', l', rfl⟩ := (rowF_mem _ _ _ _).2 s hs
    exact stmtO_small N _ (rowM_len N d) _ _ _
theorem thsM_row (N : List Int) (k : Nat) : ∀ i l, (thsM N k i l).1.1.length = k ∧ ∀ t ∈ (thsM N k i l).1.1, ∃ i' l', t.body = (rowM N 3 i' l').1.1 := by
  induction k with
  | zero => intro i l; simp [thsM]
  | succ k ih =>
    intro i l
    unfold thsM
    refine ⟨by simp only [List.length_cons, (ih _ _).1], fun t ht => ?_⟩
    simp only [List.mem_cons] at ht
    rcases ht with rfl | ht
    · exact ⟨_, _, rfl⟩
    · exact (ih _ _).2 t ht
theorem St.small_bare {s : St} (h : s.bare.small) : s.small := by
  rw [St.bare_eq] at h
  simpa only [St.small, Pl.bare, List.length_map] using h
/-- Statements of the threads of a program that was made. -/
theorem MakeOut.small {w w' : World} {N : List Int} {p : Pg} (h : MakeOut w w' N p) : ∀ t ∈ p.threads, ∀ s ∈ t.body, s.small := by
  intro t ht s hs
  have e := congrArg Pg.threads h.bare
  have ht' : t.bare ∈ (makeM N).threads := by rw [← e]; exact List.mem_map_of_mem ht
  obtain ⟨i, l, hb⟩ := (thsM_row N _ _ _).2 _ ht'
  have hs' : s.bare ∈ t.bare.body := List.mem_map_of_mem hs
  rw [hb] at hs'
  exact St.small_bare (rowM_small N 3 i l _ hs')
end Go.Proofs.Ytfdfeiempeciiaa
