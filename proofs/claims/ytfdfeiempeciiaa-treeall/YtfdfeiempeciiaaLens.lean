/- How many texts there are of what is made of numbers. -/
import Derived.Test.YtfdfeiempeciiaaJoinC
import Derived.Test.YtfdfeiempeciiaaSmall
namespace Go.Proofs.Ytfdfeiempeciiaa
open Go.ChangeShapes Go.WideShapes Go.ChangeAt Go.RowKit
set_option linter.unusedVariables false

theorem flat_bare {α β : Type} (f : α → α) (g : α → List β) (l : List α) (h : ∀ x ∈ l, g (f x) = g x) : (l.map f).flatMap g = l.flatMap g := by
  induction l with
  | nil => rfl
  | cons a l ih => simp only [List.map_cons, List.flatMap_cons, h a (by simp), ih (fun x hx => h x (by simp [hx]))]
theorem Ex.texts_bare (e : Ex) : e.bare.texts = e.texts := by
  induction e using Ex.ind with
  | h e ih =>
    rw [Ex.texts_eq, Ex.texts_eq, Ex.bare_eq]
    simp only [List.length_map, flat_bare Ex.bare Ex.texts e.kids ih]
theorem Pl.texts_bare (p : Pl) : p.bare.texts = p.texts := by simp only [Pl.texts, Pl.bare, Ex.texts_bare]
theorem St.texts_bare (s : St) : s.bare.texts = s.texts := by
  induction s using St.ind with
  | h s ih1 ih2 =>
    rw [St.texts_eq, St.texts_eq, St.bare_eq]
    simp only [Rt.bare, List.length_map, Ex.texts_bare, Pl.texts_bare, flat_bare Ex.bare Ex.texts s.args (fun x _ => Ex.texts_bare x), flat_bare St.bare St.texts s.body ih1, flat_bare St.bare St.texts s.els ih2]
theorem rowT_bare (l : List St) : rowT (l.map St.bare) = rowT l := by simp only [rowT, List.length_map, flat_bare St.bare St.texts l (fun x _ => St.texts_bare x)]
theorem Pg.texts_bare (p : Pg) : p.bare.texts = p.texts := by
  have h1 : (p.recs.map Rc.bare).flatMap Rc.texts = p.recs.flatMap Rc.texts := flat_bare _ _ _ (fun x _ => rfl)
  have h2 : (p.funs.map Fn.bare).flatMap Fn.texts = p.funs.flatMap Fn.texts := flat_bare _ _ _ (fun x _ => by simp only [Fn.texts, Fn.bare, rowT_bare])
  have h3 : (p.threads.map Th.bare).flatMap Th.texts = p.threads.flatMap Th.texts := flat_bare _ _ _ (fun x _ => by simp only [Th.texts, Th.bare, rowT_bare])
  simp only [Pg.texts, Pg.bare, List.length_map, h1, h2, h3]

theorem flat_le {α β : Type} (g : α → List β) (l : List α) (c : Nat) (h : ∀ x ∈ l, (g x).length ≤ c) : (l.flatMap g).length ≤ l.length * c := by
  induction l with
  | nil => simp
  | cons a l ih =>
    have h1 := h a (by simp)
    have h2 := ih (fun x hx => h x (by simp [hx]))
    simp only [List.flatMap_cons, List.length_append, List.length_cons, Nat.add_mul]
    omega
theorem flat_le' {α β : Type} (g : α → List β) (l : List α) (n c : Nat) (hn : l.length ≤ n) (h : ∀ x ∈ l, (g x).length ≤ c) : (l.flatMap g).length ≤ n * c := Nat.le_trans (flat_le g l c h) (Nat.mul_le_mul_right c hn)
def exB : Nat → Nat
  | 0 => 8
  | d + 1 => 8 + 2 * exB d
theorem exB_le (d : Nat) : 8 ≤ exB d := by cases d <;> simp [exB]
theorem zero_texts : Ex.zero.texts.length = 8 := by rw [Ex.texts_eq]; simp [Ex.zero]
theorem leaf_texts (N : List Int) (o i : Nat) : (leafM N o i).1.texts.length = 8 := by
  unfold leafM
  repeat' split
  all_goals rw [Ex.texts_eq]; simp [Ex.zero]
theorem exprM_texts (N : List Int) (d : Nat) : ∀ i, (exprM N d i).1.texts.length ≤ exB d := by
  induction d with
  | zero => intro i; unfold exprM; rw [leaf_texts]; exact Nat.le_refl _
  | succ d ih =>
    intro i
    unfold exprM
    repeat' split
    · rw [leaf_texts]; exact exB_le _
    · rw [Ex.texts_eq]
      have h1 := ih (nx N (nx N i))
      have h2 := ih (exprM N d (nx N (nx N i))).2
      simp only [List.length_append, List.length_cons, List.length_nil, List.flatMap_cons, List.flatMap_nil, List.append_nil, exB]
      omega
    · rw [Ex.texts_eq]
      have h1 := ih (nx N i)
      simp only [List.length_append, List.length_cons, List.length_nil, List.flatMap_cons, List.flatMap_nil, List.append_nil, exB]
      omega
theorem exprM3 (N : List Int) (i : Nat) : (exprM N 3 i).1.texts.length ≤ 120 := exprM_texts N 3 i
theorem exprM2 (N : List Int) (i : Nat) : (exprM N 2 i).1.texts.length ≤ 56 := exprM_texts N 2 i
theorem exprM1 (N : List Int) (i : Nat) : (exprM N 1 i).1.texts.length ≤ 24 := exprM_texts N 1 i
theorem plz_texts : Pl.zero.texts.length = 12 := by simp [Pl.texts, Pl.zero, zero_texts]
theorem placeM_texts (N : List Int) (i : Nat) : (placeM N i).1.texts.length ≤ 60 := by
  unfold placeM
  repeat' split
  · simp [Pl.texts, Pl.zero, zero_texts]
  · simp [Pl.texts, Pl.zero, zero_texts]
  · have := exprM2 N (nx N (nx N i))
    simp only [Pl.texts, List.length_append, List.length_cons, List.length_nil]
    omega
theorem rightM_texts (N : List Int) (i : Nat) : (rightM N i).1.e.texts.length ≤ 120 ∧ (rightM N i).1.place.texts.length ≤ 60 := by
  have h1 := placeM_texts N (nx N i)
  have h2 := exprM2 N (nx N i)
  have h3 := exprM3 N (nx N i)
  have h4 := zero_texts
  have h5 := plz_texts
  unfold rightM
  repeat' split
  all_goals simp only [Rt.zero]
  all_goals omega
theorem exprsL_texts (N : List Int) (k : Nat) : ∀ i, ((exprsL N 1 k i).1.flatMap Ex.texts).length ≤ k * 24 := by
  induction k with
  | zero => intro i; simp [exprsL]
  | succ k ih =>
    intro i
    have h1 := exprM1 N i
    have h2 := ih (exprM N 1 i).2
    simp only [exprsL, List.flatMap_cons, List.length_append, Nat.add_mul]
    omega
/-- What a statement's parts come to, without its rows of statements. -/
def St.own (s : St) : Nat := s.right.e.texts.length + s.right.place.texts.length + s.place.texts.length + s.e.texts.length + (s.args.flatMap Ex.texts).length
theorem stmtO_texts (N : List Int) (row : Nat → Nat → (List St × Nat) × Nat) (R : Nat) (hR : 2 ≤ R) (hr : ∀ i l, (rowT (row i l).1.1).length ≤ R) (o i l : Nat) : (stmtO N row o i l).1.1.own ≤ 408 ∧ (rowT (stmtO N row o i l).1.1.body).length ≤ R ∧ (rowT (stmtO N row o i l).1.1.els).length ≤ R := by
  have h1 := fun j => placeM_texts N j
  have h2 := fun j => exprM2 N j
  have h3 := fun j => exprM3 N j
  have h4 := zero_texts
  have h5 := plz_texts
  have h6 := fun j => rightM_texts N j
  have h7 := fun j => exprsL_texts N (pk N 3 (nx N i)) j
  have h8 := pk_lt N 3 (nx N i) (by omega)
  have h0 : (rowT []).length = 2 := rfl
  unfold stmtO St.own
  repeat' split
  all_goals simp only [St.zero, Rt.zero, List.flatMap_nil, List.length_nil, h4, h5, h0]
  all_goals refine ⟨?_, ?_, ?_⟩
  all_goals first
    | exact hr _ _
    | omega
    | (have a1 := h6 (nx N i); omega)
    | (have a1 := h1 i; have a2 := h2 (placeM N i).2; omega)
    | (have a1 := h3 i; omega)
    | (have a1 := h2 i; omega)
    | (have a1 := h7 (nx N (nx N i)); omega)
theorem St.texts_len (s : St) : s.texts.length = 7 + s.own + (rowT s.body).length + (rowT s.els).length := by
  rw [St.texts_eq]
  simp only [St.own, rowT, List.length_append, List.length_cons, List.length_nil]
  omega
def rowB : Nat → Nat
  | 0 => 2 + 3 * (415 + 2 * 2)
  | d + 1 => 2 + 3 * (415 + 2 * rowB d)
theorem rowB_le (d : Nat) : 2 ≤ rowB d := by cases d <;> simp [rowB]
theorem rowF_texts (stmt : Nat → Nat → (St × Nat) × Nat) (c : Nat) (hs : ∀ i l, (stmt i l).1.1.texts.length ≤ c) (n i l : Nat) (hn : n ≤ 3) : (rowT (rowF stmt n i l).1.1).length ≤ 2 + 3 * c := by
  obtain ⟨a, b⟩ := rowF_mem stmt n i l
  have := flat_le' St.texts (rowF stmt n i l).1.1 3 c (by omega) (fun x hx => by
    obtain ⟨i', l', rfl⟩ := b x hx
    exact hs i' l')
  simp only [rowT, List.length_append, List.length_cons, List.length_nil]
  omega
theorem rowM_texts (N : List Int) (d : Nat) : ∀ i l, (rowT (rowM N d i l).1.1).length ≤ rowB d := by
  induction d with
  | zero =>
    intro i l
    have h := pk_lt N 4 i (by omega)
    unfold rowM rowB
    refine rowF_texts _ _ (fun i l => ?_) _ _ _ (by omega)
    obtain ⟨a, b, c⟩ := stmtO_texts N (fun i l => (([], i), l)) 2 (by omega) (fun i l => Nat.le_refl 2) (if true = true ∧ (pk N 11 i = 5 ∨ pk N 11 i = 6 ∨ pk N 11 i = 9) then 5 else 1 + pk N 11 i) (nx N i) l
    unfold stmtF
    rw [St.texts_len]
    omega
  | succ d ih =>
    intro i l
    have h := pk_lt N 4 i (by omega)
    unfold rowM rowB
    refine rowF_texts _ _ (fun i l => ?_) _ _ _ (by omega)
    obtain ⟨a, b, c⟩ := stmtO_texts N (rowM N d) (rowB d) (rowB_le d) ih (if false = true ∧ (pk N 11 i = 5 ∨ pk N 11 i = 6 ∨ pk N 11 i = 9) then 5 else 1 + pk N 11 i) (nx N i) l
    unfold stmtF
    rw [St.texts_len]
    omega
theorem rowM3 (N : List Int) (i l : Nat) : (rowT (rowM N 3 i l).1.1).length ≤ 325565 := rowM_texts N 3 i l
theorem rowM2 (N : List Int) (i l : Nat) : (rowT (rowM N 2 i l).1.1).length ≤ 54053 := rowM_texts N 2 i l
theorem namesM_texts (N : List Int) (m i : Nat) (hm : 0 < m) (h4 : m ≤ 4) : (namedT (namesM N m i).1).length ≤ 10 := by
  have h := pk_lt N m i hm
  have := flat_le' (fun n : Nm => [n.nm, txt n.tk, n.tr]) (namesM N m i).1 3 3 (by simp only [namesM, namesL_len]; omega) (fun x _ => by simp)
  simp only [namedT, List.length_append, List.length_cons, List.length_nil]
  omega
theorem recsM_texts (N : List Int) (k : Nat) : ∀ i, ((recsM N k i).1.flatMap Rc.texts).length ≤ k * 11 := by
  induction k with
  | zero => intro i; simp [recsM]
  | succ k ih =>
    intro i
    have h1 := namesM_texts N 3 (nx N i) (by omega) (by omega)
    have h2 := ih (namesM N 3 (nx N i)).2
    simp only [recsM, List.flatMap_cons, List.length_append, Rc.texts, List.length_cons, Nat.add_mul]
    omega
theorem funsM_texts (N : List Int) (k : Nat) : ∀ i l, ((funsM N k i l).1.1.flatMap Fn.texts).length ≤ k * 54064 := by
  induction k with
  | zero => intro i l; simp [funsM]
  | succ k ih =>
    intro i l
    have h1 := namesM_texts N 3 (nx N i) (by omega) (by omega)
    have h3 := rowM2 N (namesM N 3 (nx N i)).2 l
    have h2 := ih (rowM N 2 (namesM N 3 (nx N i)).2 l).1.2 (rowM N 2 (namesM N 3 (nx N i)).2 l).2
    simp only [funsM, List.flatMap_cons, List.length_append, Fn.texts, List.length_cons, Nat.add_mul]
    omega
theorem thsM_texts (N : List Int) (k : Nat) : ∀ i l, ((thsM N k i l).1.1.flatMap Th.texts).length ≤ k * 325565 := by
  induction k with
  | zero => intro i l; simp [thsM]
  | succ k ih =>
    intro i l
    have h3 := rowM3 N i l
    have h2 := ih (rowM N 3 i l).1.2 (rowM N 3 i l).2
    simp only [thsM, List.flatMap_cons, List.length_append, Th.texts, Nat.add_mul]
    omega
theorem makeM_texts (N : List Int) : (makeM N).texts.length ≤ 2000000 := by
  have k1 := pk_lt N 3 0 (by omega)
  have k2 := pk_lt N 3 (globsN N).2 (by omega)
  have k3 := pk_lt N 4 (funsN N).1.2 (by omega)
  have h1 : ((recsN N).1.flatMap Rc.texts).length ≤ 2 * 11 := Nat.le_trans (recsM_texts N _ _) (Nat.mul_le_mul_right _ (by omega))
  have h2 : (namedT (globsN N).1).length ≤ 10 := namesM_texts N 4 _ (by omega) (by omega)
  have h3 : ((funsN N).1.1.flatMap Fn.texts).length ≤ 2 * 54064 := Nat.le_trans (funsM_texts N _ _ _) (Nat.mul_le_mul_right _ (by omega))
  have h4 : ((thsN N).1.1.flatMap Th.texts).length ≤ 3 * 325565 := Nat.le_trans (thsM_texts N _ _ _) (Nat.mul_le_mul_right _ (by omega))
  simp only [Pg.texts, makeM, List.length_append, List.length_cons, List.length_nil]
  omega
theorem mem_flat_le {α β : Type} (g : α → List β) (l : List α) (x : α) (h : x ∈ l) : (g x).length ≤ (l.flatMap g).length := by
  induction l with
  | nil => simp at h
  | cons a l ih =>
    simp only [List.flatMap_cons, List.length_append]
    simp only [List.mem_cons] at h
    rcases h with rfl | h
    · omega
    · have := ih h
      omega
theorem MakeOut.texts {w w' : World} {N : List Int} {p : Pg} (h : MakeOut w w' N p) : p.texts.length ≤ 2000000 := by
  rw [← Pg.texts_bare, h.bare]
  exact makeM_texts N
theorem MakeOut.rows {w w' : World} {N : List Int} {p : Pg} (h : MakeOut w w' N p) : ∀ t ∈ p.threads, (rowT t.body).length ≤ 2000000 := fun t ht => by
  have h1 := h.texts
  have h2 := mem_flat_le Th.texts p.threads t ht
  simp only [Pg.texts, List.length_append] at h1
  simp only [Th.texts] at h2
  omega
theorem MakeOut.exs {w w' : World} {N : List Int} {p : Pg} (h : MakeOut w w' N p) : ∀ t ∈ p.threads, ∀ s ∈ t.body, s.e.texts.length ≤ 2000000 := fun t ht s hs => by
  have h1 := h.rows t ht
  have h2 := mem_flat_le St.texts t.body s hs
  simp only [rowT, List.length_append] at h1
  rw [St.texts_eq] at h2
  simp only [List.length_append] at h2
  omega
end Go.Proofs.Ytfdfeiempeciiaa
