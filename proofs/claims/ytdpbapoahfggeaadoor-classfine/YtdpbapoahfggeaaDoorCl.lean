/- A row of marks that grows, step by step, is closed once it has gone round as often as there are sites. Plain mathematics. -/
import Derived.Test.YtdpbapoahfggeaaDoorCm
namespace Go.Proofs.YtdpbapoahfggeaaDoor
set_option linter.unusedVariables false
set_option linter.unusedSimpArgs false

section
variable {σ : Type}
def innerF (u : Nat → Nat → σ → σ) (a : Nat) : Nat → σ → σ
  | 0, s => s
  | b + 1, s => u a b (innerF u a b s)
def roundF (u : Nat → Nat → σ → σ) (n : Nat) : Nat → σ → σ
  | 0, s => s
  | a + 1, s => innerF u a n (roundF u n a s)
def roundsF (u : Nat → Nat → σ → σ) (n : Nat) : Nat → σ → σ
  | 0, s => s
  | r + 1, s => roundF u n n (roundsF u n r s)

def cntF (A : Nat → Bool) : Nat → Nat
  | 0 => 0
  | n + 1 => cntF A n + (if A n then 1 else 0)
theorem cnt_le (A : Nat → Bool) : ∀ n, cntF A n ≤ n
  | 0 => Nat.le_refl _
  | n + 1 => by have := cnt_le A n; unfold cntF; split <;> omega
theorem cnt_mono {A B : Nat → Bool} : ∀ n, (∀ c, c < n → A c = true → B c = true) → cntF A n ≤ cntF B n
  | 0, _ => Nat.le_refl _
  | n + 1, h => by
    have := cnt_mono n (fun c hc => h c (by omega))
    unfold cntF
    by_cases q : A n = true
    · rw [if_pos q, if_pos (h n (by omega) q)]; omega
    · rw [if_neg q]; omega
theorem cnt_more {A B : Nat → Bool} : ∀ n, (∀ c, c < n → A c = true → B c = true) → (∃ c, c < n ∧ A c = false ∧ B c = true) → cntF A n + 1 ≤ cntF B n
  | 0, _, ⟨c, hc, _⟩ => by omega
  | n + 1, h, ⟨c, hc, h1, h2⟩ => by
    unfold cntF
    by_cases e : c = n
    · subst e
      have := cnt_mono c (fun d hd => h d (by omega))
      rw [h1, h2]
      simp
      omega
    · have := cnt_more n (fun d hd => h d (by omega)) ⟨c, by omega, h1, h2⟩
      by_cases q : A n = true
      · rw [if_pos q, if_pos (h n (by omega) q)]; omega
      · rw [if_neg q]; omega
theorem cnt_full {A : Nat → Bool} : ∀ n, n ≤ cntF A n → ∀ c, c < n → A c = true
  | 0, _, c, hc => by omega
  | n + 1, h, c, hc => by
    have := cnt_le A n
    unfold cntF at h
    by_cases q : A n = true
    · rw [if_pos q] at h
      by_cases e : c = n
      · rw [e]; exact q
      · exact cnt_full n (by omega) c (by omega)
    · rw [if_neg q] at h; omega

structure Grows (n : Nat) (M : Nat → Nat → Bool) (A : σ → Nat → Bool) (u : Nat → Nat → σ → σ) (P : σ → Prop) : Prop where
  keep : ∀ s a b, P s → a < n → b < n → P (u a b s)
  mono : ∀ s a b c, P s → a < n → b < n → c < n → A s c = true → A (u a b s) c = true
  add : ∀ s a b, P s → a < n → b < n → A s a = true → M a b = true → A (u a b s) b = true
  sound : ∀ s a b c, P s → a < n → b < n → c < n → A (u a b s) c = true → A s c = true ∨ c = b ∧ A s a = true ∧ M a b = true

variable {n : Nat} {M : Nat → Nat → Bool} {A : σ → Nat → Bool} {u : Nat → Nat → σ → σ} {P : σ → Prop}

def Closd (n : Nat) (M : Nat → Nat → Bool) (B : Nat → Bool) : Prop := ∀ a b, a < n → b < n → B a = true → M a b = true → B b = true

theorem inner_grows (h : Grows n M A u P) {s : σ} (hs : P s) {a : Nat} (ha : a < n) : ∀ b, b ≤ n →
    P (innerF u a b s) ∧ (∀ c, c < n → A s c = true → A (innerF u a b s) c = true) ∧ (∀ c, c < b → A s a = true → M a c = true → A (innerF u a b s) c = true) ∧
    (Closd n M (A s) → ∀ c, c < n → A (innerF u a b s) c = true → A s c = true)
  | 0, _ => ⟨hs, fun c _ h => h, fun c hc => by omega, fun _ c _ h => h⟩
  | b + 1, hb => by
    obtain ⟨h1, h2, h3, h4⟩ := inner_grows h hs ha b (by omega)
    refine ⟨h.keep _ _ _ h1 ha (by omega), fun c hc q => h.mono _ _ _ _ h1 ha (by omega) hc (h2 c hc q), fun c hc q m => ?_, fun hcl c hc q => ?_⟩
    · by_cases e : c = b
      · subst e; exact h.add _ _ _ h1 ha (by omega) (h2 a ha q) m
      · exact h.mono _ _ _ _ h1 ha (by omega) (by omega) (h3 c (by omega) q m)
    · rcases h.sound _ _ _ _ h1 ha (by omega) hc q with q | ⟨e, q, m⟩
      · exact h4 hcl c hc q
      · rw [e]; exact hcl a b ha (by omega) (h4 hcl a ha q) m
theorem round_grows (h : Grows n M A u P) {s : σ} (hs : P s) : ∀ a, a ≤ n →
    P (roundF u n a s) ∧ (∀ c, c < n → A s c = true → A (roundF u n a s) c = true) ∧ (∀ d c, d < a → c < n → A s d = true → M d c = true → A (roundF u n a s) c = true) ∧
    (Closd n M (A s) → ∀ c, c < n → A (roundF u n a s) c = true → A s c = true)
  | 0, _ => ⟨hs, fun c _ h => h, fun d c hd => by omega, fun _ c _ h => h⟩
  | a + 1, ha => by
    obtain ⟨h1, h2, h3, h4⟩ := round_grows h hs a (by omega)
    obtain ⟨i1, i2, i3, i4⟩ := inner_grows h h1 (show a < n by omega) n (Nat.le_refl _)
    refine ⟨i1, fun c hc q => i2 c hc (h2 c hc q), fun d c hd hc q m => ?_, fun hcl c hc q => ?_⟩
    · by_cases e : d = a
      · subst e; exact i3 c hc (h2 d (by omega) q) m
      · exact i2 c hc (h3 d c (by omega) hc q m)
    · have hcl' : Closd n M (A (roundF u n a s)) := fun x y hx hy q m => h2 y hy (hcl x y hx hy (h4 hcl x hx q) m)
      exact h4 hcl c hc (i4 hcl' c hc q)
theorem rounds_grows (h : Grows n M A u P) {s : σ} (hs : P s) : ∀ r,
    P (roundsF u n r s) ∧ (∀ c, c < n → A s c = true → A (roundsF u n r s) c = true) ∧ (Closd n M (A (roundsF u n r s)) ∨ r ≤ cntF (A (roundsF u n r s)) n)
  | 0 => ⟨hs, fun c _ h => h, .inr (Nat.zero_le _)⟩
  | r + 1 => by
    obtain ⟨h1, h2, h3⟩ := rounds_grows h hs r
    obtain ⟨i1, i2, i3, i4⟩ := round_grows h h1 n (Nat.le_refl _)
    refine ⟨i1, fun c hc q => i2 c hc (h2 c hc q), ?_⟩
    by_cases hcl : Closd n M (A (roundsF u n r s))
    · exact .inl (fun x y hx hy q m => i2 y hy (hcl x y hx hy (i4 hcl x hx q) m))
    · refine .inr ?_
      have hr : r ≤ cntF (A (roundsF u n r s)) n := by
        rcases h3 with q | q
        · exact absurd q hcl
        · exact q
      have hex : ∃ c, c < n ∧ A (roundsF u n r s) c = false ∧ A (roundF u n n (roundsF u n r s)) c = true := by
        refine Classical.byContradiction (fun hno => hcl (fun x y hx hy q m => ?_))
        cases e : A (roundsF u n r s) y
        · exact absurd ⟨y, hy, e, i3 x y hx hy q m⟩ hno
        · rfl
      have := cnt_more n (fun c hc q => i2 c hc q) hex
      show r + 1 ≤ cntF (A (roundF u n n (roundsF u n r s))) n
      omega
/-- After as many rounds as there are sites all is closed. -/
theorem rounds_closed (h : Grows n M A u P) {s : σ} (hs : P s) : P (roundsF u n n s) ∧ (∀ c, c < n → A s c = true → A (roundsF u n n s) c = true) ∧ Closd n M (A (roundsF u n n s)) := by
  obtain ⟨h1, h2, h3⟩ := rounds_grows h hs n
  refine ⟨h1, h2, ?_⟩
  rcases h3 with q | q
  · exact q
  · exact fun x y _ hy _ _ => cnt_full n q y hy
end

/-! ### The document's classes -/

/-- One look at two sites. -/
def updL (n : Nat) (L : List Nat) (v a b : Nat) (l : List Nat) : List Nat := if l.getD a 0 = v ∧ l.getD b 0 = 0 ∧ MeetB n L a b = true then l.set b v else l
theorem updL_yes {n : Nat} {L : List Nat} {v a b : Nat} {l : List Nat} (h : l.getD a 0 = v ∧ l.getD b 0 = 0 ∧ MeetB n L a b = true) : updL n L v a b l = l.set b v := if_pos h
theorem updL_no {n : Nat} {L : List Nat} {v a b : Nat} {l : List Nat} (h : ¬ (l.getD a 0 = v ∧ l.getD b 0 = 0 ∧ MeetB n L a b = true)) : updL n L v a b l = l := if_neg h

theorem updL_len (n : Nat) (L : List Nat) (v a b : Nat) (l : List Nat) : (updL n L v a b l).length = l.length := by
  unfold updL
  split <;> simp
theorem inner_len (n : Nat) (L : List Nat) (v a : Nat) : ∀ (b : Nat) (l : List Nat), (innerF (updL n L v) a b l).length = l.length
  | 0, l => rfl
  | b + 1, l => by unfold innerF; rw [updL_len, inner_len n L v a b l]
theorem round_len (n : Nat) (L : List Nat) (v m : Nat) : ∀ (a : Nat) (l : List Nat), (roundF (updL n L v) m a l).length = l.length
  | 0, l => rfl
  | a + 1, l => by unfold roundF; rw [inner_len, round_len n L v m a l]
theorem rounds_len (n : Nat) (L : List Nat) (v m : Nat) : ∀ (r : Nat) (l : List Nat), (roundsF (updL n L v) m r l).length = l.length
  | 0, l => rfl
  | r + 1, l => by unfold roundsF; rw [round_len, rounds_len n L v m r l]
/-- No value but v comes in. -/
theorem updL_most {n : Nat} {L : List Nat} {v a b : Nat} {l : List Nat} {m : Nat} (h : ∀ i, l.getD i 0 ≤ m) (hv : v ≤ m) (i : Nat) : (updL n L v a b l).getD i 0 ≤ m := by
  unfold updL
  split
  · rw [getD_set]; split
    · exact hv
    · exact h i
  · exact h i

structure DocP (n : Nat) (L : List Nat) (k v : Nat) (l0 l : List Nat) : Prop where
  len : l.length = n
  of : ∀ b, b < n → l.getD b 0 = l0.getD b 0 ∨ l0.getD b 0 = 0 ∧ l.getD b 0 = v ∧ Jo n L k b
  at0 : l.getD k 0 = v
theorem doc_grows {n : Nat} {L : List Nat} {k v : Nat} {l0 : List Nat} (hk : k < n) (hv : 1 ≤ v) (h0 : ∀ b, b < n → l0.getD b 0 ≠ v) (hz : ∀ b, b < n → Jo n L k b → l0.getD b 0 = 0) :
    Grows n (MeetB n L) (fun l b => decide (l.getD b 0 = v)) (updL n L v) (DocP n L k v l0) := by
  have jo : ∀ l a, DocP n L k v l0 l → a < n → l.getD a 0 = v → Jo n L k a := fun l a hP ha e => by
    rcases hP.of a ha with q | q
    · exact absurd (q.symm.trans e) (h0 a ha)
    · exact q.2.2
  refine ⟨fun l a b hP ha hb => ?_, fun l a b c hP ha hb hc q => ?_, fun l a b hP ha hb q m => ?_, fun l a b c hP ha hb hc q => ?_⟩
  · by_cases e : l.getD a 0 = v ∧ l.getD b 0 = 0 ∧ MeetB n L a b = true
    · rw [updL_yes e]
      have jb := (jo l a hP ha e.1).step e.2.2
      refine ⟨by simp [hP.len], fun c hc => ?_, ?_⟩
      · rw [getD_set]
        by_cases ec : b = c
        · subst ec
          rw [if_pos ⟨rfl, by rw [hP.len]; exact hb⟩]
          exact .inr ⟨hz b hb jb, rfl, jb⟩
        · rw [if_neg (fun q => ec q.1)]
          exact hP.of c hc
      · rw [getD_set]
        split
        · rfl
        · exact hP.at0
    · rw [updL_no e]; exact hP
  · simp only [decide_eq_true_eq] at q ⊢
    by_cases e : l.getD a 0 = v ∧ l.getD b 0 = 0 ∧ MeetB n L a b = true
    · rw [updL_yes e, getD_set]
      split
      · rfl
      · exact q
    · rw [updL_no e]; exact q
  · simp only [decide_eq_true_eq] at q ⊢
    by_cases e : l.getD b 0 = 0
    · rw [updL_yes ⟨q, e, m⟩, getD_set, if_pos ⟨rfl, by rw [hP.len]; exact hb⟩]
    · rw [updL_no (fun x => e x.2.1)]
      have jb := (jo l a hP ha q).step m
      rcases hP.of b hb with x | x
      · rw [hz b hb jb] at x; exact absurd x e
      · exact x.2.1
  · simp only [decide_eq_true_eq] at q ⊢
    by_cases e : l.getD a 0 = v ∧ l.getD b 0 = 0 ∧ MeetB n L a b = true
    · rw [updL_yes e, getD_set] at q
      by_cases ec : b = c
      · subst ec; exact .inr ⟨rfl, e.1, e.2.2⟩
      · rw [if_neg (fun q => ec q.1)] at q
        exact .inl q
    · rw [updL_no e] at q; exact .inl q

/-- The classes of all sites below k, and whoever is one with them, have their numbers. -/
structure DocK (n : Nat) (L : List Nat) (l : List Nat) (k v : Nat) (rt : Nat → Nat) : Prop where
  len : l.length = n
  le : k ≤ n
  low : ∀ c, 1 ≤ c → c ≤ v → rt c < k ∧ ∀ j, Jo n L (rt c) j → rt c ≤ j
  up : ∀ c d, 1 ≤ c → c < d → d ≤ v → rt c < rt d
  is : ∀ i, i < n → ∀ c, 1 ≤ c → (l.getD i 0 = c ↔ c ≤ v ∧ Jo n L (rt c) i)
  all : ∀ i, i < k → l.getD i 0 ≠ 0
  most : v ≤ k
theorem docK_start (n : Nat) (L : List Nat) : DocK n L (List.replicate n 0) 0 0 (fun _ => 0) := by
  refine ⟨by simp, Nat.zero_le _, fun c h1 h2 => by omega, fun c d h1 h2 h3 => by omega, fun i hi c hc => ?_, fun i hi => by omega, Nat.le_refl _⟩
  have : (List.replicate n 0).getD i 0 = 0 := by
    simp only [List.getD, List.getElem?_replicate]
    split <;> rfl
  rw [this]
  exact ⟨fun e => by omega, fun e => by omega⟩
theorem DocK.skip {n : Nat} {L l : List Nat} {k v : Nat} {rt : Nat → Nat} (h : DocK n L l k v rt) (hk : k < n) (h0 : l.getD k 0 ≠ 0) : DocK n L l (k + 1) v rt :=
  ⟨h.len, hk, fun c h1 h2 => ⟨by have := (h.low c h1 h2).1; omega, (h.low c h1 h2).2⟩, h.up, h.is, fun i hi => by
    by_cases e : i = k
    · rw [e]; exact h0
    · exact h.all i (by omega), by have := h.most; omega⟩
theorem DocK.new {n : Nat} {L l : List Nat} {k v : Nat} {rt : Nat → Nat} (h : DocK n L l k v rt) (hk : k < n) (h0 : l.getD k 0 = 0) :
    DocK n L (roundsF (updL n L (v + 1)) n n (l.set k (v + 1))) (k + 1) (v + 1) (fun c => if c = v + 1 then k else rt c) := by
  have zero : ∀ b, b < n → Jo n L k b → l.getD b 0 = 0 := fun b hb j => by
    refine Classical.byContradiction (fun hne => ?_)
    obtain ⟨c1, c2⟩ := (h.is b hb _ (by omega)).1 rfl
    have := (h.is k hk (l.getD b 0) (by omega)).2 ⟨c1, c2.trans j.symm⟩
    omega
  have least : ∀ j, Jo n L k j → k ≤ j := fun j hj => by
    refine Classical.byContradiction (fun hne => ?_)
    have := zero j (by omega) hj
    exact h.all j (by omega) this
  have nov : ∀ b, b < n → l.getD b 0 ≠ v + 1 := fun b hb e => by
    have := ((h.is b hb (v + 1) (by omega)).1 e).1
    omega
  have start : DocP n L k (v + 1) l (l.set k (v + 1)) := by
    refine ⟨by simp [h.len], fun b hb => ?_, ?_⟩
    · rw [getD_set]
      by_cases e : k = b
      · subst e
        rw [if_pos ⟨rfl, by rw [h.len]; exact hk⟩]
        exact .inr ⟨h0, rfl, Jo.refl _ _ _⟩
      · rw [if_neg (fun q => e q.1)]
        exact .inl rfl
    · rw [getD_set, if_pos ⟨rfl, by rw [h.len]; exact hk⟩]
  obtain ⟨hP, _, hcl⟩ := rounds_closed (doc_grows (L := L) hk (show 1 ≤ v + 1 by omega) nov zero) start
  generalize roundsF (updL n L (v + 1)) n n (l.set k (v + 1)) = l' at *
  have full : ∀ b, b < n → Jo n L k b → l'.getD b 0 = v + 1 := fun b hb j =>
    j (fun x => x < n → l'.getD x 0 = v + 1) (fun _ => hP.at0) (fun x y hx hm hy => by
      have hx' := (meet_iff.1 hm).1
      have := hcl x y hx' hy (decide_eq_true (hx hx')) hm
      simpa using this) hb
  have val : ∀ b, b < n → ¬ Jo n L k b → l'.getD b 0 = l.getD b 0 := fun b hb j => by
    rcases hP.of b hb with q | q
    · exact q
    · exact absurd q.2.2 j
  refine ⟨hP.len, hk, fun c h1 h2 => ?_, fun c d h1 h2 h3 => ?_, fun i hi c hc => ?_, fun i hi => ?_, by have := h.most; omega⟩
  · by_cases e : c = v + 1
    · rw [if_pos e]
      exact ⟨by omega, least⟩
    · rw [if_neg e]
      have := h.low c h1 (by omega)
      exact ⟨by omega, this.2⟩
  · rw [if_neg (show ¬ c = v + 1 by omega)]
    by_cases e : d = v + 1
    · rw [if_pos e]
      exact (h.low c h1 (by omega)).1
    · rw [if_neg e]
      exact h.up c d h1 h2 (by omega)
  · by_cases e : c = v + 1
    · subst e
      rw [if_pos rfl]
      by_cases j : Jo n L k i
      · exact ⟨fun _ => ⟨Nat.le_refl _, j⟩, fun _ => full i hi j⟩
      · rw [val i hi j]
        exact ⟨fun q => absurd q (nov i hi), fun q => absurd q.2 j⟩
    · rw [if_neg e]
      by_cases j : Jo n L k i
      · rw [full i hi j]
        constructor
        · intro q; exact absurd q.symm e
        · rintro ⟨q1, q2⟩
          have := (h.is k hk c hc).2 ⟨by omega, q2.trans j.symm⟩
          omega
      · rw [val i hi j, h.is i hi c hc]
        exact ⟨fun q => ⟨by omega, q.2⟩, fun q => ⟨by omega, q.2⟩⟩
  · by_cases e : i = k
    · rw [e, hP.at0]; omega
    · by_cases j : Jo n L k i
      · rw [full i (by omega) j]; omega
      · rw [val i (by omega) j]
        exact h.all i (by omega)
theorem docK_end {n : Nat} {L l : List Nat} {v : Nat} {rt : Nat → Nat} (h : DocK n L l n v rt) : NumS n L l := by
  refine ⟨h.len, fun i hi => by have := h.all i hi; omega, fun i j hi hj => ⟨fun e => ?_, fun q => ?_⟩, fun i hi c c1 c2 => ?_⟩
  · have p := h.all i hi
    obtain ⟨_, a⟩ := (h.is i hi (l.getD i 0) (by omega)).1 rfl
    obtain ⟨_, b⟩ := (h.is j hj (l.getD i 0) (by omega)).1 e.symm
    exact a.symm.trans b
  · have p := h.all i hi
    obtain ⟨a1, a⟩ := (h.is i hi (l.getD i 0) (by omega)).1 rfl
    exact ((h.is j hj (l.getD i 0) (by omega)).2 ⟨a1, a.trans q⟩).symm
  · have p := h.all i hi
    obtain ⟨a1, a⟩ := (h.is i hi (l.getD i 0) (by omega)).1 rfl
    have lt := h.up c (l.getD i 0) c1 c2 a1
    have le := (h.low (l.getD i 0) (by omega) a1).2 i a
    have lc := (h.low c c1 (by omega)).1
    exact ⟨rt c, by omega, (h.is (rt c) (by have := h.le; omega) c c1).2 ⟨by omega, Jo.refl _ _ _⟩⟩

/-! ### The statement's own look: who is joined, site by site -/

def updB (n : Nat) (L l : List Nat) (a b : Nat) (s : List Bool) : List Bool := if s.getD a false = true ∧ l.getD a 0 = l.getD b 0 ∧ MeetB n L a b = true then s.set b true else s
theorem updB_yes {n : Nat} {L l : List Nat} {a b : Nat} {s : List Bool} (h : s.getD a false = true ∧ l.getD a 0 = l.getD b 0 ∧ MeetB n L a b = true) : updB n L l a b s = s.set b true := if_pos h
theorem updB_no {n : Nat} {L l : List Nat} {a b : Nat} {s : List Bool} (h : ¬ (s.getD a false = true ∧ l.getD a 0 = l.getD b 0 ∧ MeetB n L a b = true)) : updB n L l a b s = s := if_neg h
theorem updB_len (n : Nat) (L l : List Nat) (a b : Nat) (s : List Bool) : (updB n L l a b s).length = s.length := by
  unfold updB
  split <;> simp
theorem innerB_len (n : Nat) (L l : List Nat) (a : Nat) : ∀ (b : Nat) (s : List Bool), (innerF (updB n L l) a b s).length = s.length
  | 0, s => rfl
  | b + 1, s => by unfold innerF; rw [updB_len, innerB_len n L l a b s]
theorem roundB_len (n : Nat) (L l : List Nat) (m : Nat) : ∀ (a : Nat) (s : List Bool), (roundF (updB n L l) m a s).length = s.length
  | 0, s => rfl
  | a + 1, s => by unfold roundF; rw [innerB_len, roundB_len n L l m a s]
theorem roundsB_len (n : Nat) (L l : List Nat) (m : Nat) : ∀ (r : Nat) (s : List Bool), (roundsF (updB n L l) m r s).length = s.length
  | 0, s => rfl
  | r + 1, s => by unfold roundsF; rw [roundB_len, roundsB_len n L l m r s]
theorem getD_setB (g : List Bool) (i : Nat) (v : Bool) (k : Nat) : (g.set i v).getD k false = if i = k ∧ k < g.length then v else g.getD k false := by
  simp only [List.getD, List.getElem?_set]
  by_cases h : i = k
  · subst h
    by_cases h2 : i < g.length
    · simp [h2]
    · simp [h2]
  · simp [h]
theorem fine_grows {n : Nat} {L l : List Nat} (h : NumS n L l) : Grows n (MeetB n L) (fun (s : List Bool) b => s.getD b false) (updB n L l) (fun s => s.length = n) := by
  refine ⟨fun s a b hP ha hb => by rw [updB_len]; exact hP, fun s a b c hP ha hb hc q => ?_, fun s a b hP ha hb q m => ?_, fun s a b c hP ha hb hc q => ?_⟩
  · by_cases e : s.getD a false = true ∧ l.getD a 0 = l.getD b 0 ∧ MeetB n L a b = true
    · simp only [updB_yes e, getD_setB]
      split
      · rfl
      · exact q
    · simp only [updB_no e]; exact q
  · have := (h.same a b ha hb).2 (Jo.one m)
    simp only [updB_yes ⟨q, this, m⟩, getD_setB]
    rw [if_pos ⟨trivial, by rw [hP]; exact hb⟩]
  · by_cases e : s.getD a false = true ∧ l.getD a 0 = l.getD b 0 ∧ MeetB n L a b = true
    · simp only [updB_yes e, getD_setB] at q
      by_cases ec : b = c
      · subst ec; exact .inr ⟨rfl, e.1, e.2.2⟩
      · rw [if_neg (fun q => ec q.1)] at q
        exact .inl q
    · simp only [updB_no e] at q; exact .inl q
/-- The first of each class. -/
def firstB (l : List Nat) (k : Nat) : Bool := decide (∀ i, i < k → l.getD i 0 ≠ l.getD k 0)
theorem fine_all {n : Nat} {L l : List Nat} (h : NumS n L l) {s : List Bool} (hs : s.length = n) (h1 : ∀ k, k < n → s.getD k false = firstB l k) :
    ∀ k, k < n → (roundsF (updB n L l) n n s).getD k false = true := by
  obtain ⟨_, h2, h3⟩ := rounds_closed (fine_grows h) hs
  have key : ∀ k, k < n → ∃ r, r ≤ k ∧ firstB l r = true ∧ Jo n L r k := by
    intro k
    induction k using Nat.strongRecOn with
    | _ k ih =>
      intro hk
      cases e : firstB l k
      · unfold firstB at e
        rw [decide_eq_false_iff_not] at e
        have : ∃ i, i < k ∧ l.getD i 0 = l.getD k 0 := Classical.byContradiction (fun hno => e (fun i hi q => hno ⟨i, hi, q⟩))
        obtain ⟨i, hi, q⟩ := this
        obtain ⟨r, hr, h4, h5⟩ := ih i hi (by omega)
        exact ⟨r, by omega, h4, h5.trans ((h.same i k (by omega) hk).1 q)⟩
      · exact ⟨k, Nat.le_refl _, e, Jo.refl _ _ _⟩
  intro k hk
  obtain ⟨r, hr, h4, h5⟩ := key k hk
  exact h5 (fun x => x < n → (roundsF (updB n L l) n n s).getD x false = true) (fun hx => h2 r hx (by rw [h1 r hx]; exact h4)) (fun x y hx hm hy => h3 x y (meet_iff.1 hm).1 hy (hx (meet_iff.1 hm).1) hm) hk
end Go.Proofs.YtdpbapoahfggeaaDoor
