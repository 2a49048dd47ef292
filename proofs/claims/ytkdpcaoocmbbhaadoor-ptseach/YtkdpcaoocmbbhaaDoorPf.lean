/- What holds of the instructions and sites of a code that can be; all sites at every set are enough. Plain mathematics. -/
import Derived.Test.YtkdpcaoocmbbhaaDoorPm
namespace Go.Proofs.YtkdpcaoocmbbhaaDoor
set_option linter.unusedVariables false

theorem hgt_can (s : Int) : ∀ (l : List Itm) (h k : Nat), hgt s l h = some k → ∀ x ∈ l, can s x = true
  | [], _, _, _, x, hx => by cases hx
  | y :: l, h, k, e, x, hx => by
    unfold hgt at e
    split at e
    · rename_i hc
      rcases List.mem_cons.1 hx with rfl | hx
      · exact hc.1
      · exact hgt_can s l _ _ e x hx
    · cases e
theorem good_can {s : Int} {l : List Itm} (h : goodB s l = true) : l.length ≤ 64 ∧ ∀ x ∈ l, can s x = true := by
  unfold goodB at h
  rw [Bool.and_eq_true, decide_eq_true_eq, beq_iff_eq] at h
  exact ⟨h.1, hgt_can s l 0 1 h.2⟩
theorem can_slot {s : Int} {x : Itm} (h : can s x = true) (ho : (x.op == 2) = true) : x.n < s := by
  unfold can at h
  have : x.op = 2 := by simpa using ho
  rw [this] at h
  simp at h
  omega
theorem can_in {s : Int} {x : Itm} (h : can s x = true) (ho : (x.op == 3) = true) : x.n < 16 := by
  unfold can at h
  have : x.op = 3 := by simpa using ho
  rw [this] at h
  simp at h
  omega
theorem uses_lt {m : Nat} {l : List Itm} (h : ∀ x ∈ l, can m x = true) (h0 : 0 < m) : ∀ s ∈ usesN l, s < m := by
  intro s hs
  unfold usesN at hs
  obtain ⟨x, hx, e⟩ := List.mem_filterMap.1 hs
  split at e
  · rename_i ho
    cases e
    have := can_slot (h x hx) ho
    omega
  · cases e

structure InsF (c : Cd) (t : Bd) (x : Ins) : Prop where
  op : 1 ≤ x.op ∧ x.op ≤ 17
  d : hasD x.op = true → ∃ d : Nat, x.dst = d ∧ d < t.slots.length
  s : hasS x.op = true → ∃ k : Nat, x.src = k ∧ k < t.slots.length
  it : hasI x.op = true → goodB t.slots.length x.items = true
  no : hasI x.op = false → x.items = []
  g : x.op = 2 ∨ x.op = 5 → ∃ n : Nat, x.n = n ∧ n < c.globs.length
  f : x.op = 3 ∨ x.op = 6 → ∃ r n : Nat, x.rc = r ∧ r < c.recs.length ∧ x.n = n ∧ n < (c.recs.getD r Rl.z).flds.length
  m : x.op = 8 ∨ x.op = 9 → ∃ n : Nat, x.n = n ∧ n < c.sites.length

theorem ins_facts {c : Cd} (g : GoodP c) {i : Nat} {t : Bd} {k : Nat} {x : Ins} (ht : c.threads[i]? = some t) (hx : t.code[k]? = some x) : InsF c t x := by
  have h := (g.ths i t ht).2.2.2.2.2 k x hx
  unfold insOk at h
  simp only [Bool.and_eq_true] at h
  obtain ⟨h1, h2, h3, h4, h5⟩ := h
  unfold fieldsB at h4
  simp only [Bool.and_eq_true] at h4
  obtain ⟨f1, f2, f3, f4, f5, f6, f7⟩ := h4
  refine ⟨by simpa [isOp] using h1, ?_, ?_, ?_, ?_, ?_, ?_, ?_⟩
  · intro e
    rw [e] at f1
    exact isIn_nat f1
  · intro e
    rw [e] at f2
    exact isIn_nat f2
  · intro e
    rw [e] at f6
    exact f6
  · intro e
    rw [e] at f6
    simpa [fld] using f6
  · intro e
    have : isIn x.n c.globs.length = true := by
      unfold agreesB at h5
      rcases e with e | e <;> rw [e] at h5 <;> simp at h5
      · exact h5.1
      · exact h5
    exact isIn_nat this
  · intro e
    have h6 : hasFieldB c t x = true := by
      unfold agreesB at h5
      rcases e with e | e <;> rw [e] at h5 <;> simp at h5
      · exact h5.1
      · exact h5
    have h7 : isIn x.rc c.recs.length = true := by
      have : hasR x.op = true := by rcases e with e | e <;> rw [e] <;> rfl
      rw [this] at f3
      exact f3
    unfold hasFieldB at h6
    simp only [Bool.and_eq_true] at h6
    obtain ⟨r, e1, hr⟩ := isIn_nat h7
    obtain ⟨n, e2, hn⟩ := isIn_nat h6.2
    refine ⟨r, n, e1, hr, e2, ?_⟩
    rw [e1] at hn
    simpa using hn
  · intro e
    have : isIn x.n c.sites.length = true := by
      unfold agreesB at h5
      rcases e with e | e <;> rw [e] at h5 <;> simp [siteB] at h5
      · exact h5.2.1
      · exact h5.2.1
    exact isIn_nat this

theorem site_rec {c : Cd} (g : GoodP c) {k : Nat} {s : Ste} (hs : c.sites[k]? = some s) : s.rc = -1 ∨ ∃ r : Nat, s.rc = r ∧ r < c.recs.length := by
  obtain ⟨o1, o2⟩ := g.sites k s hs
  unfold insAt at o1 o2
  split at o1
  · rename_i hc
    rw [if_pos hc] at o2
    rw [Bool.and_eq_true] at hc
    obtain ⟨i, e1, hi⟩ := isIn_nat hc.1
    have hx : c.threads[i]? = some c.threads[i] := by simp [hi]
    have et : c.threads.getD s.th.toNat Bd.z = c.threads[i] := by rw [e1, Int.toNat_natCast]; simp [List.getD, hi]
    rw [et] at hc o1 o2
    obtain ⟨q, e2, hq⟩ := isIn_nat hc.2
    have hy : (c.threads[i]).code[q]? = some ((c.threads[i]).code[q]) := by simp [hq]
    have ex : (c.threads[i]).code.getD s.pl.toNat Ins.z = (c.threads[i]).code[q] := by rw [e2, Int.toNat_natCast]; simp [List.getD, hq]
    rw [ex] at o1 o2
    generalize (c.threads[i]).code[q] = x at *
    have h := (g.ths i _ hx).2.2.2.2.2 q x hy
    unfold insOk at h
    simp only [Bool.and_eq_true] at h
    obtain ⟨_, _, _, h4, h5⟩ := h
    have hk := (List.getElem?_eq_some_iff.1 hs)
    have esz : (c.sites[x.n.toNat]?.getD Ste.z) = s := by rw [o2, Int.toNat_natCast, hs]; rfl
    unfold agreesB at h5
    rcases o1 with o | o
    · rw [o] at h5
      simp [siteB] at h5
      rw [esz] at h5
      right
      unfold fieldsB at h4
      simp only [Bool.and_eq_true] at h4
      have f3 := h4.2.2.1
      rw [show hasR x.op = true by rw [o]; rfl] at f3
      obtain ⟨r, e, hr⟩ := isIn_nat f3
      exact ⟨r, by rw [h5.2.2.2.2]; exact e, hr⟩
    · rw [o] at h5
      simp [siteB] at h5
      rw [esz] at h5
      exact .inl h5.2.2.2.2
  · simp [Ins.z] at o1

/-! ### The shape -/
theorem shape_len (c : Cd) : (shapeC c).length = c.threads.length + 1 + c.sites.length := by
  unfold shapeC
  simp; omega
theorem shape_slots (c : Cd) {i : Nat} {t : Bd} (h : c.threads[i]? = some t) : (shapeC c).getD i 0 = t.slots.length := by
  have hi := (List.getElem?_eq_some_iff.1 h).1
  unfold shapeC
  simp only [List.getD]
  rw [List.getElem?_append_left (by simpa using hi)]
  simp [h]
theorem shape_globs (c : Cd) : (shapeC c).getD c.threads.length 0 = c.globs.length := by
  unfold shapeC
  simp only [List.getD]
  rw [List.getElem?_append_right (by simp)]
  simp
def fldN (c : Cd) (s : Ste) : Nat := if s.rc < 0 then 0 else ((c.recs.getD s.rc.toNat Rl.z).flds.length)
theorem shape_site (c : Cd) {k : Nat} {s : Ste} (h : c.sites[k]? = some s) : (shapeC c).getD (c.threads.length + 1 + k) 0 = fldN c s := by
  unfold shapeC
  simp only [List.getD]
  rw [List.getElem?_append_right (by simp; omega)]
  simp only [List.length_map, show c.threads.length + 1 + k - c.threads.length = k + 1 by omega, List.getElem?_cons_succ, List.getElem?_map, h, Option.map_some, Option.getD_some]
  rfl

/-- All sites, everywhere. -/
def topR (c : Cd) : List (List Nat) := (shapeC c).map fun n => List.replicate n (2 ^ c.sites.length - 1)
theorem shp_top (c : Cd) : shp (topR c) = shapeC c := by
  unfold shp topR
  rw [List.map_map]
  have : (List.length ∘ fun n => List.replicate n (2 ^ c.sites.length - 1)) = id := by funext n; simp
  rw [this, List.map_id]
theorem top_at (c : Cd) (r j : Nat) : gR (topR c) r j = if j < (shapeC c).getD r 0 then 2 ^ c.sites.length - 1 else 0 := by
  have h : ∀ o : Option Nat, (((o.map fun n => List.replicate n (2 ^ c.sites.length - 1)).getD []).getD j 0) = if j < o.getD 0 then 2 ^ c.sites.length - 1 else 0 := fun o => by
    cases o with
    | none => simp
    | some n =>
      simp only [Option.map_some, Option.getD_some, List.getD, List.getElem?_replicate]
      split <;> simp
  have := h ((shapeC c)[r]?)
  have e : ((shapeC c).map fun n => List.replicate n (2 ^ c.sites.length - 1)).getD r [] = (((shapeC c)[r]?.map fun n => List.replicate n (2 ^ c.sites.length - 1)).getD []) := by simp only [List.getD, List.getElem?_map]
  unfold gR topR
  rw [e]
  exact this
theorem top_sub (c : Cd) (r j : Nat) : Sub (gR (topR c) r j) (2 ^ c.sites.length - 1) := by
  rw [top_at]
  split
  · exact Sub.refl _
  · exact Sub.zero _
theorem top_in (c : Cd) {r j : Nat} (h : j < (shapeC c).getD r 0) : gR (topR c) r j = 2 ^ c.sites.length - 1 := by rw [top_at, if_pos h]
theorem meant_top (c : Cd) (i : Nat) (l : List Nat) : Sub (meant (topR c) i l) (2 ^ c.sites.length - 1) := fun k hk => by
  rw [meant_bit] at hk
  obtain ⟨s, _, h⟩ := hk
  exact top_sub c i s k h

theorem hasD_of {x : Ins} (h : x.op = 1 ∨ x.op = 2 ∨ x.op = 3 ∨ x.op = 8 ∨ x.op = 9) : hasD x.op = true := by
  rcases h with h | h | h | h | h <;> rw [h] <;> rfl
theorem closed_top {c : Cd} (g : GoodP c) : Closed c (topR c) := by
  intro i t ht j x hx
  have F := ins_facts g ht hx
  have inD : hasD x.op = true → gR (topR c) i x.dst.toNat = 2 ^ c.sites.length - 1 := fun h => by
    obtain ⟨d, e, hd⟩ := F.d h
    rw [e, Int.toNat_natCast]
    exact top_in c (by rw [shape_slots c ht]; exact hd)
  refine ⟨fun a m => ?_, fun a m => ?_, fun a m k hk hb => ?_, fun a m => ?_, fun a m k hk hb hr => ?_, fun a m => ?_⟩
  · rw [inD (hasD_of (.inl a))]; exact meant_top c _ _
  · rw [inD (hasD_of (.inr (.inl a)))]; exact top_sub c _ _
  · rw [inD (hasD_of (.inr (.inr (.inl a))))]; exact top_sub c _ _
  · obtain ⟨n, e, hn⟩ := F.g (.inr a)
    rw [e, Int.toNat_natCast, top_in c (by rw [shape_globs]; exact hn)]
    exact meant_top c _ _
  · obtain ⟨r, n, e1, hr1, e2, hn⟩ := F.f (.inr a)
    have hs : c.sites[k]? = some c.sites[k] := by simp [hk]
    have es : c.sites.getD k Ste.z = c.sites[k] := by simp [List.getD, hk]
    rw [es] at hr
    rw [e2, Int.toNat_natCast, top_in c (by
      rw [shape_site c hs]
      unfold fldN
      rw [hr, e1, if_neg (by omega), Int.toNat_natCast]
      exact hn)]
    exact meant_top c _ _
  · obtain ⟨n, e, hn⟩ := F.m a
    rw [inD (by rcases a with a | a; exact hasD_of (.inr (.inr (.inr (.inl a)))); exact hasD_of (.inr (.inr (.inr (.inr a))))), e, Int.toNat_natCast, Nat.testBit_two_pow_sub_one]
    simpa using hn

theorem Low.bits {c : Cd} (g : GoodP c) {R : List (List Nat)} (h : Low c R) (r j k : Nat) (hk : (gR R r j).testBit k = true) : k < c.sites.length := by
  have := top_sub c r j k (h.2 _ (shp_top c) (closed_top g) r j k hk)
  rw [Nat.testBit_two_pow_sub_one] at this
  simpa using this
theorem lt_of_bits {a n : Nat} (h : ∀ k, a.testBit k = true → k < n) : a < 2 ^ n := by
  refine Nat.lt_pow_two_of_testBit a fun i hi => ?_
  cases hb : a.testBit i with
  | false => rfl
  | true => have := h i hb; omega
theorem Low.allU {c : Cd} (g : GoodP c) {R : List (List Nat)} (h : Low c R) : AllU R := fun r j => by
  have h1 := lt_of_bits (h.bits g r j)
  have h2 : 2 ^ c.sites.length ≤ 2 ^ 64 := Nat.pow_le_pow_right (by omega) (by have := g.l4; omega)
  omega
end Go.Proofs.YtkdpcaoocmbbhaaDoor
