/- The document's values (from the right) as plain mathematics: what its 'value' answers at a place is the top of a stack behind the items up to there. No Go in it. -/
import Derived.Test.YtefcpidegnddiaaEvals
namespace Go.Proofs.Ytefcpidegnddiaa
set_option linter.unusedVariables false

/-- A value, where its expression begins, and the trap's number. -/
structure Ent where
  v : Int
  f : Nat
  b : Int

def Ent.blank : Ent := ⟨0, 0, 0⟩

/-- What two values become. -/
def join2 (x : Itm) (p q : Ent) : Ent := if q.b != 0 || p.b != 0 then ⟨0, q.f, 1⟩ else if joinB x p.v then ⟨joinN x q.v p.v, q.f, 0⟩ else ⟨0, q.f, 1⟩

/-- The stack (the top first) behind an item at the place k. -/
def rstp (sl ins : List Int) (k : Nat) (x : Itm) (st : List Ent) : List Ent :=
  if tk x.op = 0 then ⟨fetchV sl ins x, k, 0⟩ :: st
  else if tk x.op = 1 then (match st with | p :: r => ⟨turnV x.op p.v, p.f, p.b⟩ :: r | [] => [])
  else (match st with | p :: q :: r => join2 x p q :: r | _ => [])

def rst (sl ins : List Int) (xs : List Itm) : Nat → List Ent
  | 0 => []
  | k + 1 => rstp sl ins k (xs.getD k Itm.blank) (rst sl ins xs k)

/-- What 'value' answers at the place k. -/
def topE (sl ins : List Int) (xs : List Itm) (k : Nat) : Ent := (rst sl ins xs (k + 1)).headD Ent.blank

/-- Each of the first n items finds its values. -/
def Pre (sl ins : List Int) (xs : List Itm) (n : Nat) : Prop := ∀ i, i < n → tk (xs.getD i Itm.blank).op ≤ (rst sl ins xs i).length

theorem rstp_len (sl ins : List Int) (k : Nat) (x : Itm) (st : List Ent) (h : tk x.op ≤ st.length) : (rstp sl ins k x st).length = st.length - tk x.op + 1 := by
  unfold rstp
  have h2 := tk_le x.op
  split
  · rename_i e; simp [e]
  · split
    · rename_i e
      match st with
      | [] => simp at h; omega
      | p :: r => simp [e]
    · have e : tk x.op = 2 := by omega
      match st with
      | [] => simp at h; omega
      | [p] => simp at h; omega
      | p :: q :: r => simp [e]

theorem rst_in (sl ins : List Int) (xs : List Itm) (n : Nat) (hp : Pre sl ins xs n) : ∀ k, k < n → rst sl ins xs (k + 1) = topE sl ins xs k :: rst sl ins xs (topE sl ins xs k).f ∧ (topE sl ins xs k).f ≤ k := by
  intro k
  induction k using Nat.strongRecOn with
  | _ k ih =>
    intro hk
    have h := hp k hk
    have h2 := tk_le (xs.getD k Itm.blank).op
    have e0 : rst sl ins xs (k + 1) = rstp sl ins k (xs.getD k Itm.blank) (rst sl ins xs k) := rfl
    generalize xs.getD k Itm.blank = x at *
    unfold topE
    rw [e0]
    unfold rstp
    split
    · exact ⟨rfl, Nat.le_refl _⟩
    · rename_i n0
      have hk1 : 1 ≤ k := by
        cases k with
        | zero => simp [rst] at h; omega
        | succ k => omega
      obtain ⟨j, rfl⟩ : ∃ j, k = j + 1 := ⟨k - 1, by omega⟩
      obtain ⟨i1, i2⟩ := ih j (by omega) (by omega)
      split
      · rw [i1]
        exact ⟨rfl, Nat.le_succ_of_le i2⟩
      · rename_i n1
        have ht : tk x.op = 2 := by omega
        rw [i1] at h ⊢
        generalize topE sl ins xs j = p at *
        have hf : 1 ≤ p.f := by
          cases hpf : p.f with
          | zero => rw [hpf] at h; simp [rst] at h; omega
          | succ m => omega
        obtain ⟨m, hm⟩ : ∃ m, p.f = m + 1 := ⟨p.f - 1, by omega⟩
        obtain ⟨j1, j2⟩ := ih m (by omega) (by omega)
        rw [hm, j1]
        generalize topE sl ins xs m = q at *
        have hj : (join2 x p q).f = q.f := by unfold join2; split <;> (try split) <;> rfl
        refine ⟨?_, ?_⟩
        · show join2 x p q :: rst sl ins xs q.f = join2 x p q :: rst sl ins xs (join2 x p q).f
          rw [hj]
        · show (join2 x p q).f ≤ _
          rw [hj]; omega

theorem top0 (sl ins : List Int) (xs : List Itm) (k : Nat) (h : tk (xs.getD k Itm.blank).op = 0) : topE sl ins xs k = ⟨fetchV sl ins (xs.getD k Itm.blank), k, 0⟩ := by
  show (rstp sl ins k (xs.getD k Itm.blank) (rst sl ins xs k)).headD _ = _
  unfold rstp
  rw [if_pos h]; rfl

theorem top1 (sl ins : List Int) (xs : List Itm) (n k : Nat) (hp : Pre sl ins xs n) (hk : k < n) (h : tk (xs.getD k Itm.blank).op = 1) : 1 ≤ k ∧ topE sl ins xs k = ⟨turnV (xs.getD k Itm.blank).op (topE sl ins xs (k - 1)).v, (topE sl ins xs (k - 1)).f, (topE sl ins xs (k - 1)).b⟩ := by
  have hk1 : 1 ≤ k := by
    cases k with
    | zero => have := hp 0 hk; rw [h] at this; simp [rst] at this
    | succ k => omega
  refine ⟨hk1, ?_⟩
  obtain ⟨j, rfl⟩ : ∃ j, k = j + 1 := ⟨k - 1, by omega⟩
  obtain ⟨i1, i2⟩ := rst_in sl ins xs n hp j (by omega)
  show (rstp sl ins (j + 1) (xs.getD (j + 1) Itm.blank) (rst sl ins xs (j + 1))).headD _ = _
  unfold rstp
  rw [if_neg (by omega), if_pos h, i1]; rfl

theorem top2 (sl ins : List Int) (xs : List Itm) (n k : Nat) (hp : Pre sl ins xs n) (hk : k < n) (h : tk (xs.getD k Itm.blank).op = 2) : 1 ≤ k ∧ 1 ≤ (topE sl ins xs (k - 1)).f ∧ (topE sl ins xs (k - 1)).f ≤ k - 1 ∧ topE sl ins xs k = join2 (xs.getD k Itm.blank) (topE sl ins xs (k - 1)) (topE sl ins xs ((topE sl ins xs (k - 1)).f - 1)) := by
  have h0 := hp k hk
  have hk1 : 1 ≤ k := by
    cases k with
    | zero => rw [h] at h0; simp [rst] at h0
    | succ k => omega
  obtain ⟨j, rfl⟩ : ∃ j, k = j + 1 := ⟨k - 1, by omega⟩
  obtain ⟨i1, i2⟩ := rst_in sl ins xs n hp j (by omega)
  have e1 : j + 1 - 1 = j := by omega
  rw [e1]
  rw [h, i1] at h0
  have hf : 1 ≤ (topE sl ins xs j).f := by
    cases hpf : (topE sl ins xs j).f with
    | zero => rw [hpf] at h0; simp [rst] at h0
    | succ m => omega
  refine ⟨hk1, hf, i2, ?_⟩
  obtain ⟨m, hm⟩ : ∃ m, (topE sl ins xs j).f = m + 1 := ⟨(topE sl ins xs j).f - 1, by omega⟩
  obtain ⟨j1, j2⟩ := rst_in sl ins xs n hp m (by omega)
  show (rstp sl ins (j + 1) (xs.getD (j + 1) Itm.blank) (rst sl ins xs (j + 1))).headD _ = _
  unfold rstp
  rw [if_neg (by omega), if_neg (by omega), i1]
  have e2 : (topE sl ins xs j).f - 1 = m := by omega
  rw [e2, hm, j1]; rfl

theorem hgt_pre (s : Int) (l m : List Itm) (h k : Nat) (e : hgt s (l ++ m) h = some k) : ∃ j, hgt s l h = some j := by
  rw [hgt_app] at e
  cases q : hgt s l h with
  | none => rw [q] at e; cases e
  | some j => exact ⟨j, rfl⟩

theorem take_one (xs : List Itm) (i : Nat) (h : i < xs.length) : xs.take (i + 1) = xs.take i ++ [xs.getD i Itm.blank] := by
  have : xs.getD i Itm.blank = xs[i] := by simp [List.getD, h]
  rw [this, List.take_succ_eq_append_getElem h]

theorem hgt_rst (sl ins : List Int) (s : Int) (xs : List Itm) (k : Nat) (e : hgt s xs 0 = some k) : ∀ i, i ≤ xs.length → hgt s (xs.take i) 0 = some (rst sl ins xs i).length := by
  intro i
  induction i with
  | zero => intro _; rfl
  | succ i ih =>
    intro hi
    have h0 := ih (by omega)
    obtain ⟨j, hj⟩ := hgt_pre s (xs.take (i + 1)) (xs.drop (i + 1)) 0 k (by rw [List.take_append_drop]; exact e)
    rw [hj]
    rw [take_one xs i (by omega)] at hj
    obtain ⟨j', h1, h2, h3, rfl⟩ := (hgt_snoc s _ _ _ _).1 hj
    rw [h0] at h1
    cases h1
    show some _ = some (rstp sl ins i (xs.getD i Itm.blank) (rst sl ins xs i)).length
    rw [rstp_len _ _ _ _ _ h3]

theorem pre_good (sl ins : List Int) (s : Int) (xs : List Itm) (k : Nat) (e : hgt s xs 0 = some k) : Pre sl ins xs xs.length := by
  intro i hi
  have h0 := hgt_rst sl ins s xs k e i (by omega)
  obtain ⟨j, hj⟩ := hgt_pre s (xs.take (i + 1)) (xs.drop (i + 1)) 0 k (by rw [List.take_append_drop]; exact e)
  rw [take_one xs i hi] at hj
  obtain ⟨j', h1, h2, h3, _⟩ := (hgt_snoc s _ _ _ _).1 hj
  rw [h0] at h1
  cases h1
  exact h3

def AllZ (st : List Ent) : Prop := ∀ e ∈ st, e.b = 0

theorem join2_b (x : Itm) (p q : Ent) (h : (join2 x p q).b = 0) : p.b = 0 ∧ q.b = 0 ∧ joinB x p.v = true ∧ (join2 x p q).v = joinN x q.v p.v := by
  unfold join2 at h ⊢
  split at h
  · simp at h
  · rename_i c
    simp at c
    split at h
    · rename_i d
      refine ⟨c.2, c.1, d, ?_⟩
      rw [if_neg (by simp [c]), if_pos d]
    · simp at h

theorem join2_z (x : Itm) (p q : Ent) (hp : p.b = 0) (hq : q.b = 0) (hj : joinB x p.v = true) : (join2 x p q).b = 0 := by
  unfold join2
  rw [if_neg (by simp [hp, hq]), if_pos hj]

theorem drop_rev2 (r : List Int) (a b : Int) : (r ++ [a, b]).drop ((r ++ [a, b]).length - 2) = [a, b] ∧ (r ++ [a, b]).take ((r ++ [a, b]).length - 2) = r := by
  have e : (r ++ [a, b]).length - 2 = r.length := by simp
  rw [e]; simp
theorem drop_rev1 (r : List Int) (b : Int) : (r ++ [b]).drop ((r ++ [b]).length - 1) = [b] ∧ (r ++ [b]).take ((r ++ [b]).length - 1) = r := by
  have e : (r ++ [b]).length - 1 = r.length := by simp
  rw [e]; simp

theorem runE_one (sl ins : List Int) (x : Itm) (st : List Int) : runE sl ins [x] st = if stB x st then some (stN sl ins x st) else none := rfl

theorem sim (sl ins : List Int) (xs : List Itm) (hp : Pre sl ins xs xs.length) : ∀ i, i ≤ xs.length →
    (AllZ (rst sl ins xs i) → runE sl ins (xs.take i) [] = some ((rst sl ins xs i).map Ent.v).reverse) ∧ (¬ AllZ (rst sl ins xs i) → runE sl ins (xs.take i) [] = none) := by
  intro i
  induction i with
  | zero => intro _; exact ⟨fun _ => rfl, fun h => absurd (fun e he => by simp [rst] at he) h⟩
  | succ i ih =>
    intro hi
    obtain ⟨a1, a2⟩ := ih (by omega)
    have h := hp i (by omega)
    have h2 := tk_le (xs.getD i Itm.blank).op
    rw [take_one xs i (by omega), runE_app]
    show (AllZ (rstp sl ins i (xs.getD i Itm.blank) (rst sl ins xs i)) → _ = some ((rstp sl ins i (xs.getD i Itm.blank) (rst sl ins xs i)).map Ent.v).reverse) ∧ (¬ AllZ (rstp sl ins i (xs.getD i Itm.blank) (rst sl ins xs i)) → _)
    generalize xs.getD i Itm.blank = x at *
    generalize rst sl ins xs i = st at *
    by_cases hz : AllZ st
    · rw [a1 hz]
      show (_ → runE sl ins [x] _ = _) ∧ (_ → runE sl ins [x] _ = _)
      rw [runE_one]
      unfold rstp
      by_cases t0 : tk x.op = 0
      · rw [if_pos t0]
        have eb : stB x (st.map Ent.v).reverse = true := by
          unfold stB; rw [t0, List.drop_of_length_le (by omega)]; rfl
        have en : stN sl ins x (st.map Ent.v).reverse = (st.map Ent.v).reverse ++ [fetchV sl ins x] := by
          unfold stN; rw [t0, List.drop_of_length_le (by omega), List.take_of_length_le (by omega)]; rfl
        rw [eb, en]
        refine ⟨fun _ => by simp, fun hn => absurd ?_ hn⟩
        intro e he
        rcases List.mem_cons.1 he with rfl | he
        · rfl
        · exact hz e he
      · rw [if_neg t0]
        by_cases t1 : tk x.op = 1
        · rw [if_pos t1]
          match st, h, hz with
          | [], h, _ => simp at h; omega
          | p :: r, h, hz =>
            simp only [List.map_cons, List.reverse_cons]
            have d := drop_rev1 (r.map Ent.v).reverse p.v
            have eb : stB x ((r.map Ent.v).reverse ++ [p.v]) = true := by unfold stB; rw [t1, d.1]; rfl
            have en : stN sl ins x ((r.map Ent.v).reverse ++ [p.v]) = (r.map Ent.v).reverse ++ [turnV x.op p.v] := by unfold stN; rw [t1, d.1, d.2]; rfl
            rw [eb, en]
            refine ⟨fun _ => rfl, fun hn => absurd ?_ hn⟩
            intro e he
            rcases List.mem_cons.1 he with rfl | he
            · exact hz p (by simp)
            · exact hz e (List.mem_cons_of_mem _ he)
        · rw [if_neg t1]
          have ht : tk x.op = 2 := by omega
          match st, h, hz with
          | [], h, _ => simp at h; omega
          | [p], h, _ => simp at h; omega
          | p :: q :: r, h, hz =>
            simp only [List.map_cons, List.reverse_cons, List.append_assoc, List.cons_append, List.nil_append]
            have d := drop_rev2 (r.map Ent.v).reverse q.v p.v
            have eb : stB x ((r.map Ent.v).reverse ++ [q.v, p.v]) = joinB x p.v := by unfold stB; rw [ht, d.1]; rfl
            have en : stN sl ins x ((r.map Ent.v).reverse ++ [q.v, p.v]) = (r.map Ent.v).reverse ++ [joinN x q.v p.v] := by unfold stN; rw [ht, d.1, d.2]; rfl
            rw [eb, en]
            refine ⟨fun hn => ?_, fun hn => ?_⟩
            · obtain ⟨_, _, hj, hv⟩ := join2_b x p q (hn _ (by simp))
              rw [if_pos hj, hv]
            · cases hj : joinB x p.v with
              | false => rfl
              | true =>
                refine absurd ?_ hn
                intro e he
                rcases List.mem_cons.1 he with rfl | he
                · exact join2_z x p q (hz p (by simp)) (hz q (by simp)) hj
                · exact hz e (List.mem_cons_of_mem _ (List.mem_cons_of_mem _ he))
    · rw [a2 hz]
      refine ⟨fun hn => absurd ?_ hz, fun _ => rfl⟩
      unfold rstp at hn
      split at hn
      · intro e he; exact hn e (List.mem_cons_of_mem _ he)
      · split at hn
        · match st, h, hn with
          | [], _, _ => intro e he; simp at he
          | p :: r, h, hn =>
            intro e he
            rcases List.mem_cons.1 he with rfl | he
            · exact hn ⟨turnV x.op e.v, e.f, e.b⟩ (by simp)
            · exact hn e (List.mem_cons_of_mem _ he)
        · have ht : tk x.op = 2 := by omega
          match st, h, hn with
          | [], _, _ => intro e he; simp at he
          | [p], h, _ => simp at h; omega
          | p :: q :: r, h, hn =>
            obtain ⟨h1, h2, _⟩ := join2_b x p q (hn _ (by simp))
            intro e he
            rcases List.mem_cons.1 he with rfl | he
            · exact h1
            · rcases List.mem_cons.1 he with rfl | he
              · exact h2
              · exact hn e (List.mem_cons_of_mem _ he)

/-- All values are rows of 64 bits, all traps 0 or 1. -/
def EntOk (e : Ent) : Prop := U e.v ∧ (e.b = 0 ∨ e.b = 1)

theorem join2_ok (x : Itm) (hx : x.ok) (p q : Ent) (hp : EntOk p) (hq : EntOk q) : EntOk (join2 x p q) := by
  unfold join2
  split
  · exact ⟨⟨by simp, by simp⟩, .inr rfl⟩
  · split
    · refine ⟨?_, .inl rfl⟩
      exact u_reck [] [] (fun _ h => by simp at h) x hx [q.v, p.v] (by intro y hy; simp at hy; rcases hy with rfl | rfl; exact hq.1; exact hp.1)
    · exact ⟨⟨by simp, by simp⟩, .inr rfl⟩

theorem top_ok (sl ins : List Int) (xs : List Itm) (hs : AllU sl) (hx : ∀ i, i < xs.length → (xs.getD i Itm.blank).ok) (hp : Pre sl ins xs xs.length) : ∀ k, k < xs.length → EntOk (topE sl ins xs k) := by
  intro k
  induction k using Nat.strongRecOn with
  | _ k ih =>
    intro hk
    have h2 := tk_le (xs.getD k Itm.blank).op
    by_cases t0 : tk (xs.getD k Itm.blank).op = 0
    · rw [top0 sl ins xs k t0]
      exact ⟨u_reck sl ins hs _ (hx k hk) [] (fun _ h => by simp at h), .inl rfl⟩
    · by_cases t1 : tk (xs.getD k Itm.blank).op = 1
      · obtain ⟨g1, g2⟩ := top1 sl ins xs _ k hp hk t1
        have := ih (k - 1) (by omega) (by omega)
        rw [g2]
        exact ⟨u_reck sl ins hs _ (hx k hk) [(topE sl ins xs (k - 1)).v] (by intro y hy; simp at hy; subst hy; exact this.1), this.2⟩
      · obtain ⟨g1, g2, g3, g4⟩ := top2 sl ins xs _ k hp hk (by omega)
        rw [g4]
        exact join2_ok _ (hx k hk) _ _ (ih _ (by omega) (by omega)) (ih _ (by omega) (by omega))

/-- The document's answer is the program's. -/
theorem reval_is (sl ins : List Int) (xs : List Itm) (hg : goodB sl.length xs = true) : 0 < xs.length ∧ ((topE sl ins xs (xs.length - 1)).b = 0 → evN sl ins xs = (topE sl ins xs (xs.length - 1)).v ∧ evT sl ins xs = 0) ∧ ((topE sl ins xs (xs.length - 1)).b ≠ 0 → evN sl ins xs = 0 ∧ evT sl ins xs = 1) := by
  obtain ⟨e, h64⟩ := good_hgt hg
  have hpos : 0 < xs.length := by
    cases xs with
    | nil => simp [hgt] at e
    | cons x l => simp
  refine ⟨hpos, ?_⟩
  have hp := pre_good sl ins sl.length xs 1 e
  have hl := hgt_rst sl ins sl.length xs 1 e xs.length (Nat.le_refl _)
  rw [List.take_length, e] at hl
  obtain ⟨s1, s2⟩ := sim sl ins xs hp xs.length (Nat.le_refl _)
  rw [List.take_length] at s1 s2
  obtain ⟨m, hm⟩ : ∃ m, xs.length = m + 1 := ⟨xs.length - 1, by omega⟩
  obtain ⟨i1, i2⟩ := rst_in sl ins xs xs.length hp m (by omega)
  have em : xs.length - 1 = m := by omega
  rw [em]
  rw [hm, i1] at s1 s2 hl
  have hnil : rst sl ins xs (topE sl ins xs m).f = [] := by
    cases q : rst sl ins xs (topE sl ins xs m).f with
    | nil => rfl
    | cons y l => rw [q] at hl; simp at hl
  rw [hnil] at s1 s2
  unfold evN evT
  rw [hg]
  constructor
  · intro hb
    rw [s1 (by intro e he; simp at he; subst he; exact hb)]
    exact ⟨rfl, rfl⟩
  · intro hb
    rw [s2 (fun q => hb (q _ (by simp)))]
    exact ⟨rfl, rfl⟩
end Go.Proofs.Ytefcpidegnddiaa
