/- What CalcHangs wants: a row of slots that is set anew; values hang on the named slots alone. -/
import Derived.Test.YtefcpidegnddiaaUses
import Derived.Laws.Rows
namespace Go.Proofs.Ytefcpidegnddiaa
open Go.ChangeShapes Go.WideShapes Go.ChangeAt Go.RowKit Go.Deep
set_option linter.unusedVariables false

theorem Stk.frozen {w : World} {g cap : Nat} {st : List Int} (h : Stk w g cap st) (k : Nat) : w.frozen? ⟨g, k, none⟩ = false := by
  obtain ⟨cur, h, _⟩ := h
  simp [World.frozen?, h]

theorem Stk.set {w : World} {g cap : Nat} {st : List Int} (h : Stk w g cap st) (k : Nat) (v : Int) : Stk (w.setCell ⟨g, k, none⟩ (.int .u64 v)) g cap (st.set k v) := by
  obtain ⟨cur, h, h2, h3, h4⟩ := h
  refine ⟨cur.setIfInBounds k (.int .u64 v), heap_setCell_same w g k cur 26 _ h, by simpa using h2, by simpa using h3, ?_⟩
  rw [Array.toList_setIfInBounds, List.length_set, List.take_set, h4, List.map_set]

theorem Stk.nums {w : World} {g cap : Nat} {st : List Int} (h : Stk w g cap st) (hU : AllU st) : NumsAt .u64 w (some ⟨g, 0, none⟩) st := by
  refine nums_of h.lt ?_ ?_
  · intro j u hj
    rw [List.getElem?_map] at hj
    cases e : st[j]? with
    | none => rw [e] at hj; cases hj
    | some v => rw [e] at hj; cases hj; exact h.cell j v e
  · intro x hx
    have := hU x hx
    have h1 : IntKind.u64.min = 0 := by decide
    have h2 : IntKind.u64.max = 18446744073709551615 := by decide
    simp only [Lit.wf, h1, h2, Bool.and_eq_true, decide_eq_true_eq]
    exact this

theorem NRow.stk {base : Nat} {w : World} {p : Option Addr} {n c : Nat} {l : List Int} (h : NRow .u64 26 base w (.slice p n c) n l) (hn : 0 < n) : ∃ g, p = some ⟨g, 0, none⟩ ∧ base ≤ g ∧ Stk w g c l := by
  obtain ⟨h1, ho, _⟩ := h
  rcases ho.2 with ⟨_, rfl⟩ | ⟨g, cap, cur, e, hb, hg, hle, _, hcs, ht⟩
  · omega
  · simp only [Value.slice.injEq, true_and] at e
    obtain ⟨rfl, rfl⟩ := e
    refine ⟨g, rfl, hb, cur, hg, by simpa using hcs, by omega, ?_⟩
    rw [← h1]
    simpa using ht

theorem run_same (sl sl' ins : List Int) (l : List Itm) (st : List Int) (h : ∀ x ∈ l, x.op = 2 → sl.getD x.n.toNat 0 = sl'.getD x.n.toNat 0) : runE sl ins l st = runE sl' ins l st := by
  induction l generalizing st with
  | nil => rfl
  | cons x l ih =>
    rw [runE_cons, runE_cons]
    have e : stN sl ins x st = stN sl' ins x st := by
      unfold stN
      congr 2
      unfold reckN
      split
      · unfold fetchV
        split
        · exact h x (by simp) (by simpa using ‹(x.op == 2) = true›)
        · rfl
      · rfl
      · rfl
    rw [e]
    split
    · exact ih _ (fun y hy => h y (List.mem_cons_of_mem _ hy))
    · rfl

theorem ev_same (sl sl' ins : List Int) (l : List Itm) (hl : sl'.length = sl.length) (h : ∀ x ∈ l, x.op = 2 → sl.getD x.n.toNat 0 = sl'.getD x.n.toNat 0) : evN sl' ins l = evN sl ins l ∧ evT sl' ins l = evT sl ins l := by
  unfold evN evT
  rw [hl, run_same sl sl' ins l [] h]; exact ⟨rfl, rfl⟩

theorem hgt_all (s : Int) (l : List Itm) (h k : Nat) (e : hgt s l h = some k) : ∀ x ∈ l, can s x = true := by
  induction l generalizing h with
  | nil => intro x hx; simp at hx
  | cons y l ih =>
    obtain ⟨c1, c2, c3⟩ := hgt_can e
    intro x hx
    rcases List.mem_cons.1 hx with rfl | hx
    · exact c1
    · exact ih _ c3 x hx

theorem uses_mem (l : List Itm) (x : Itm) (hx : x ∈ l) (h2 : x.op = 2) : wrap64 x.n ∈ usesL l := by
  induction l with
  | nil => simp at hx
  | cons y l ih =>
    unfold usesL
    rcases List.mem_cons.1 hx with rfl | hx
    · rw [if_pos (by simp [h2])]; simp
    · split
      · exact List.mem_cons_of_mem _ (ih hx)
      · exact ih hx

theorem uses_from (l : List Itm) (k : Int) (hk : k ∈ usesL l) : ∃ x ∈ l, x.op = 2 ∧ k = wrap64 x.n := by
  induction l with
  | nil => simp [usesL] at hk
  | cons y l ih =>
    unfold usesL at hk
    split at hk
    · rename_i h2
      rcases List.mem_cons.1 hk with rfl | hk
      · exact ⟨y, by simp, by simpa using h2, rfl⟩
      · obtain ⟨x, hx, r⟩ := ih hk
        exact ⟨x, List.mem_cons_of_mem _ hx, r⟩
    · obtain ⟨x, hx, r⟩ := ih hk
      exact ⟨x, List.mem_cons_of_mem _ hx, r⟩

theorem can2 (s : Nat) (hs : s ≤ 1000) (x : Itm) (hx : x.ok) (h : can s x = true) (h2 : x.op = 2) : 0 ≤ x.n ∧ x.n < s ∧ wrap64 x.n = x.n := by
  have := can_slot hx h h2
  have h0 := hx.2.2.2.2.1
  refine ⟨h0, by omega, ?_⟩
  unfold wrap64
  omega

theorem uses_in (s : Nat) (hs : s ≤ 1000) (l : List Itm) (hl : AllOk l) (hg : goodB s l = true) (k : Int) (hk : k ∈ usesL l) : 0 ≤ k ∧ k < s := by
  obtain ⟨x, hx, h2, rfl⟩ := uses_from l k hk
  have := can2 s hs x (hl x hx) (hgt_all _ _ _ _ (good_hgt hg).1 x hx) h2
  omega

/-- What was set is as there, for the first i of them. -/
def Set_ (sl M : List Int) (us : List Int) (i : Nat) : Prop := ∀ j, j < i → M.getD (us.getD j 0).toNat 0 = sl.getD (us.getD j 0).toNat 0

theorem set_next (sl M us : List Int) (i k : Nat) (hk : us.getD i 0 = (k : Int)) (hM : k < M.length) (h : Set_ sl M us i) : Set_ sl (M.set k (sl.getD k 0)) us (i + 1) := by
  intro j hj
  by_cases e : (us.getD j 0).toNat = k
  · rw [e]
    simp [List.getD, hM]
  · have hji : j < i := by
      by_cases q : j = i
      · subst q; rw [hk] at e; simp at e
      · omega
    rw [← h j hji]
    generalize (us.getD j 0).toNat = a at *
    simp only [List.getD]
    rw [List.getElem?_set_ne (fun q => e q.symm)]

theorem set_all (s : Nat) (hs : s ≤ 1000) (sl M : List Int) (l : List Itm) (hl : AllOk l) (hg : goodB s l = true) (h : Set_ sl M (usesL l) (usesL l).length) : ∀ x ∈ l, x.op = 2 → sl.getD x.n.toNat 0 = M.getD x.n.toNat 0 := by
  intro x hx h2
  have hm := uses_mem l x hx h2
  obtain ⟨w1, w2, w3⟩ := can2 s hs x (hl x hx) (hgt_all _ _ _ _ (good_hgt hg).1 x hx) h2
  obtain ⟨j, hj, e⟩ := List.getElem_of_mem hm
  have e2 : (usesL l).getD j 0 = x.n := by
    have : (usesL l).getD j 0 = (usesL l)[j] := by simp [List.getD, hj]
    rw [this, e]; exact w3
  have := h j hj
  rw [e2] at this
  exact this.symm

end Go.Proofs.Ytefcpidegnddiaa
