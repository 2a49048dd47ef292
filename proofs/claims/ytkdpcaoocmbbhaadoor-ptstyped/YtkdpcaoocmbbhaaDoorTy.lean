/- Where values go by names alone, the least sets are of their names' kinds. Plain mathematics. -/
import Derived.Test.YtkdpcaoocmbbhaaDoorM08
namespace Go.Proofs.YtkdpcaoocmbbhaaDoor
set_option linter.unusedVariables false
set_option linter.unusedSimpArgs false

def rcS (c : Cd) (k : Nat) : Int := (c.sites.getD k Ste.z).rc
def okS (c : Cd) (l : Loc) (k : Nat) : Bool := (l.kind == 3 && rcS c k == -1) || (l.kind == 4 && rcS c k == l.rc)
def maskF (c : Cd) (l : Loc) : Nat → Nat
  | 0 => 0
  | n + 1 => maskF c l n ||| (if okS c l n then 2 ^ n else 0)
/-- The sites of a name's kind. -/
def mask (c : Cd) (l : Loc) : Nat := maskF c l c.sites.length
theorem maskF_bit (c : Cd) (l : Loc) (k : Nat) : ∀ n, (maskF c l n).testBit k = true ↔ k < n ∧ okS c l k = true
  | 0 => by simp [maskF]
  | n + 1 => by
    unfold maskF
    rw [Nat.testBit_or, Bool.or_eq_true, maskF_bit c l k n]
    by_cases h : okS c l n = true
    · rw [if_pos h, Nat.testBit_two_pow, decide_eq_true_eq]
      constructor
      · rintro (⟨h1, h2⟩ | rfl)
        · exact ⟨by omega, h2⟩
        · exact ⟨by omega, h⟩
      · rintro ⟨h1, h2⟩
        by_cases e : n = k
        · exact .inr e
        · exact .inl ⟨by omega, h2⟩
    · rw [if_neg h]
      simp only [Nat.zero_testBit]
      constructor
      · rintro (⟨h1, h2⟩ | h1)
        · exact ⟨by omega, h2⟩
        · cases h1
      · rintro ⟨h1, h2⟩
        refine .inl ⟨?_, h2⟩
        by_cases e : k = n
        · rw [e] at h2; exact absurd h2 h
        · omega
theorem mask_bit {c : Cd} {l : Loc} {k : Nat} : (mask c l).testBit k = true ↔ k < c.sites.length ∧ okS c l k = true := maskF_bit c l k _
theorem okS_same {c : Cd} {l m : Loc} (h1 : l.kind = m.kind) (h2 : l.rc = m.rc) (k : Nat) : okS c l k = okS c m k := by unfold okS; rw [h1, h2]
theorem mask_same {c : Cd} {l m : Loc} (h1 : l.kind = m.kind) (h2 : l.rc = m.rc) : Sub (mask c l) (mask c m) := fun k hk => by
  rw [mask_bit] at hk ⊢
  rw [← okS_same h1 h2]
  exact hk
theorem mask_none {c : Cd} {l : Loc} (h : meansL l = false) : mask c l = 0 := by
  apply Nat.eq_of_testBit_eq
  intro k
  rw [Nat.zero_testBit]
  cases hq : (mask c l).testBit k
  · rfl
  · obtain ⟨_, h2⟩ := mask_bit.1 hq
    unfold meansL at h
    unfold okS at h2
    simp only [Bool.or_eq_false_iff] at h
    rw [h.1, h.2] at h2
    simp at h2

def fldsOf (c : Cd) (s : Ste) : List Loc := if s.rc < 0 then [] else (c.recs.getD s.rc.toNat Rl.z).flds
/-- The sets in which all is of its name's kind. -/
def kindR (c : Cd) : List (List Nat) := c.threads.map (fun t => t.slots.map (mask c)) ++ c.globs.map (mask c) :: c.sites.map (fun s => (fldsOf c s).map (mask c))
theorem shp_kind (c : Cd) : shp (kindR c) = shapeC c := by
  unfold shp kindR shapeC fldsOf
  simp only [List.map_append, List.map_map, List.map_cons, List.length_map, Function.comp_def]
  congr 2
  apply List.map_congr_left
  intro s _
  split <;> simp
theorem map_getD (c : Cd) (l : List Loc) (j : Nat) : (l.map (mask c)).getD j 0 = mask c (l.getD j Loc.z) := by
  simp only [List.getD, List.getElem?_map]
  cases l[j]? with
  | none => exact (mask_none rfl).symm
  | some x => rfl
theorem kind_slots {c : Cd} {i : Nat} {b : Bd} (h : c.threads[i]? = some b) (j : Nat) : gR (kindR c) i j = mask c (b.slots.getD j Loc.z) := by
  have hi := (List.getElem?_eq_some_iff.1 h).1
  unfold gR
  have : (kindR c).getD i [] = b.slots.map (mask c) := by
    unfold kindR
    simp only [List.getD]
    rw [List.getElem?_append_left (by simpa using hi)]
    simp [h]
  rw [this, map_getD]
theorem kind_globs (c : Cd) (j : Nat) : gR (kindR c) c.threads.length j = mask c (c.globs.getD j Loc.z) := by
  unfold gR
  have : (kindR c).getD c.threads.length [] = c.globs.map (mask c) := by
    unfold kindR
    simp only [List.getD]
    rw [List.getElem?_append_right (by simp)]
    simp
  rw [this, map_getD]
theorem kind_sites {c : Cd} {k : Nat} {s : Ste} (h : c.sites[k]? = some s) (j : Nat) : gR (kindR c) (c.threads.length + 1 + k) j = mask c ((fldsOf c s).getD j Loc.z) := by
  unfold gR
  have : (kindR c).getD (c.threads.length + 1 + k) [] = (fldsOf c s).map (mask c) := by
    unfold kindR
    simp only [List.getD]
    rw [List.getElem?_append_right (by simp; omega)]
    rw [show c.threads.length + 1 + k - (c.threads.map (fun t => t.slots.map (mask c))).length = k + 1 by simp; omega]
    simp [h]
  rw [this, map_getD]

/-- Where something is put, if one does. -/
def toOf (c : Cd) (b : Bd) (x : Ins) : Loc := if x.op = 1 then slotOf b x else if x.op = 5 then globAt c x else if x.op = 6 then fieldAt c x else Loc.z
def PlainI (c : Cd) (b : Bd) (x : Ins) : Prop := meansL (toOf c b x) = true → ∃ y, x.items = [y] ∧ (y.op = 2 → (b.slots.getD y.n.toNat Loc.z).kind = (toOf c b x).kind ∧ (b.slots.getD y.n.toNat Loc.z).rc = (toOf c b x).rc)
/-- Values of things go by names alone. -/
def PlainP (c : Cd) : Prop := ∀ (i : Nat) (b : Bd) (j : Nat) (x : Ins), c.threads[i]? = some b → b.code[j]? = some x → PlainI c b x
theorem plain_meant {c : Cd} {i : Nat} {b : Bd} {x : Ins} (hb : c.threads[i]? = some b) (hp : PlainI c b x) (hm : meansL (toOf c b x) = true) : Sub (meant (kindR c) i (usesN x.items)) (mask c (toOf c b x)) := by
  obtain ⟨y, e, h⟩ := hp hm
  intro k hk
  rw [meant_bit] at hk
  obtain ⟨s, hs, hb2⟩ := hk
  rw [e] at hs
  unfold usesN at hs
  by_cases e2 : y.op = 2
  · have : s = y.n.toNat := by simpa [e2] using hs
    rw [this, kind_slots hb] at hb2
    exact mask_same (h e2).1 (h e2).2 k hb2
  · simp [e2] at hs

theorem holds_iff {b : Bd} {s k r : Int} (h : holdsB b s k r = true) : (b.slots.getD s.toNat Loc.z).kind = k ∧ (b.slots.getD s.toNat Loc.z).rc = r := by
  unfold holdsB at h
  simpa using h
theorem agrees_of {c : Cd} (g : GoodP c) {i : Nat} {b : Bd} {k : Nat} {x : Ins} (hb : c.threads[i]? = some b) (hx : b.code[k]? = some x) : agreesB c i b k x = true := by
  have h := (g.ths i b hb).2.2.2.2.2 k x hx
  unfold insOk at h
  simp only [Bool.and_eq_true] at h
  exact h.2.2.2.2
theorem rc_site {c : Cd} {k : Nat} {s : Ste} (h : c.sites[k]? = some s) : rcS c k = s.rc := by unfold rcS; simp [List.getD, h]

theorem kind_closed {c : Cd} (g : GoodP c) (hp : PlainP c) : Closed c (kindR c) := by
  intro i b hb j x hx
  have A := agrees_of g hb hx
  have F := ins_facts g hb hx
  have P := hp i b j x hb hx
  refine ⟨fun e m => ?_, fun e m => ?_, fun e m k hk hbit => ?_, fun e m => ?_, fun e m k hk hbit hrc => ?_, fun e m => ?_⟩
  · rw [kind_slots hb]
    have ht : toOf c b x = slotOf b x := by unfold toOf; rw [if_pos e]
    have := plain_meant hb P (by rw [ht]; exact m)
    rw [ht] at this
    exact this
  · rw [kind_globs, kind_slots hb]
    unfold agreesB at A
    rw [if_pos (by rw [e]; rfl), Bool.and_eq_true] at A
    obtain ⟨h1, h2⟩ := holds_iff A.2
    exact mask_same h1.symm h2.symm
  · rw [kind_slots hb] at hbit ⊢
    unfold agreesB at A
    rw [if_neg (by rw [e]; decide), if_neg (by rw [e]; decide), if_pos (by rw [e]; rfl), Bool.and_eq_true] at A
    obtain ⟨A1, A2⟩ := A
    unfold hasFieldB at A1
    rw [Bool.and_eq_true] at A1
    obtain ⟨s1, s2⟩ := holds_iff A1.1
    obtain ⟨d1, d2⟩ := holds_iff A2
    obtain ⟨r, n, er, hr, en, hn⟩ := F.f (.inl e)
    obtain ⟨_, ho⟩ := mask_bit.1 hbit
    obtain ⟨s, hs⟩ : ∃ s, c.sites[k]? = some s := ⟨c.sites[k], by simp [hk]⟩
    have hrc : s.rc = x.rc := by
      unfold okS at ho
      rw [s1, s2, rc_site hs] at ho
      simpa using ho
    rw [kind_sites hs]
    have hf : (fldsOf c s).getD x.n.toNat Loc.z = fieldAt c x := by
      unfold fldsOf fieldAt
      rw [hrc, if_neg (by omega)]
    rw [hf]
    exact mask_same d1.symm d2.symm
  · rw [kind_globs]
    have ht : toOf c b x = globAt c x := by unfold toOf; rw [if_neg (by omega), if_pos e]
    have := plain_meant hb P (by rw [ht]; exact m)
    rw [ht] at this
    exact this
  · obtain ⟨s, hs⟩ : ∃ s, c.sites[k]? = some s := ⟨c.sites[k], by simp [hk]⟩
    have hrc' : s.rc = x.rc := by rw [← hrc]; simp [List.getD, hs]
    obtain ⟨r, n, er, hr, en, hn⟩ := F.f (.inr e)
    have hf : (fldsOf c s).getD x.n.toNat Loc.z = fieldAt c x := by
      unfold fldsOf fieldAt
      rw [hrc', if_neg (by omega)]
    rw [kind_sites hs, hf]
    have ht : toOf c b x = fieldAt c x := by unfold toOf; rw [if_neg (by omega), if_neg (by omega), if_pos e]
    have := plain_meant hb P (by rw [ht]; exact m)
    rw [ht] at this
    exact this
  · rw [kind_slots hb, mask_bit]
    obtain ⟨n, en, hn⟩ := F.m e
    refine ⟨by omega, ?_⟩
    have hd : hasD x.op = true := by rcases e with e | e <;> rw [e] <;> rfl
    unfold agreesB at A
    unfold okS
    rcases e with e | e
    · rw [if_neg (by rw [e]; decide), if_neg (by rw [e]; decide), if_neg (by rw [e]; decide), if_neg (by rw [e]; decide), if_neg (by rw [e]; decide), if_neg (by rw [e]; decide), if_pos (by rw [e]; rfl), Bool.and_eq_true] at A
      obtain ⟨d1, d2⟩ := holds_iff A.1
      have A2 := A.2
      unfold siteB at A2
      simp only [Bool.and_eq_true, beq_iff_eq] at A2
      rw [d1, d2]
      unfold rcS
      rw [A2.2.2.2]
      simp
    · rw [if_neg (by rw [e]; decide), if_neg (by rw [e]; decide), if_neg (by rw [e]; decide), if_neg (by rw [e]; decide), if_neg (by rw [e]; decide), if_neg (by rw [e]; decide), if_neg (by rw [e]; decide), if_pos (by rw [e]; rfl), Bool.and_eq_true] at A
      obtain ⟨d1, d2⟩ := holds_iff A.1
      have A2 := A.2
      unfold siteB at A2
      simp only [Bool.and_eq_true, beq_iff_eq] at A2
      rw [d1, d2]
      unfold rcS
      rw [A2.2.2.2]
      simp

/-- A set has sites of a name's kind alone. -/
def TypedS (c : Cd) (l : Loc) (s : Nat) : Prop :=
  (meansL l = false → s = 0) ∧ ∀ k, s.testBit k = true → k < c.sites.length ∧ (l.kind = 3 → (c.sites.getD k Ste.z).rc = -1) ∧ (l.kind = 4 → (c.sites.getD k Ste.z).rc = l.rc)
theorem typed_of {c : Cd} {l : Loc} {s : Nat} (h : Sub s (mask c l)) : TypedS c l s := by
  refine ⟨fun m => ?_, fun k hk => ?_⟩
  · rw [mask_none m] at h
    exact h.anti (Sub.zero _)
  · obtain ⟨h1, h2⟩ := mask_bit.1 (h k hk)
    refine ⟨h1, fun e => ?_, fun e => ?_⟩
    · unfold okS rcS at h2
      rw [e] at h2
      simpa using h2
    · unfold okS rcS at h2
      rw [e] at h2
      simpa using h2
theorem least_typed {c : Cd} {R : List (List Nat)} (g : GoodP c) (hp : PlainP c) (h : Least c R) : LeR R (kindR c) := h.1.2 _ (shp_kind c) (kind_closed g hp)
end Go.Proofs.YtkdpcaoocmbbhaaDoor
