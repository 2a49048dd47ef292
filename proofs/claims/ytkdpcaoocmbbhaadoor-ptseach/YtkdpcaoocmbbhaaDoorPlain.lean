/- What holds in a code that can be, of each instruction: plain mathematics. -/
import Derived.Test.YtkdpcaoocmbbhaaDoorAlive
namespace Go.Proofs.YtkdpcaoocmbbhaaDoor
set_option linter.unusedVariables false

theorem insideF_first (th pl : Int) : ∀ (l : List Sec) (i : Int) (k : Nat) (s : Sec), l[k]? = some s → hitS th pl s = true → (∀ (j : Nat) (o : Sec), j < k → l[j]? = some o → hitS th pl o = false) → insideF th pl l i = i + k
  | [], i, k, s, h, _, _ => by simp at h
  | a :: l, i, 0, s, h, hh, _ => by
    simp at h
    subst h
    rw [insideF_yes _ _ hh]; simp
  | a :: l, i, k + 1, s, h, hh, hn => by
    rw [insideF_no _ _ (hn 0 a (by omega) rfl), insideF_first th pl l (i + 1) k s (by simpa using h) hh (fun j o hj ho => hn (j + 1) o (by omega) (by simpa using ho))]
    omega

theorem meet_of_hits {th pl : Int} {s o : Sec} (h : hitS th pl s = true) (k : hitS th pl o = true) : meetB s o = true := by
  simp only [hitS, Bool.and_eq_true, beq_iff_eq, decide_eq_true_eq] at h k
  simp only [meetB, Bool.and_eq_true, beq_iff_eq, decide_eq_true_eq]
  omega

theorem inside_of {c : Cd} (g : GoodP c) {th pl : Int} {n : Nat} {s : Sec} (hs : c.secs[n]? = some s) (hh : hitS th pl s = true) : inside c.secs th pl = n := by
  unfold inside
  rw [insideF_first th pl c.secs 0 n s hs hh]
  · omega
  · intro j o hj ho
    cases hq : hitS th pl o with
    | false => rfl
    | true =>
      have h1 := meet_of_hits hh hq
      rw [(g.secs n s hs).2 j o hj ho] at h1
      cases h1

theorem guards_of {c : Cd} (g : GoodP c) {i : Nat} {t : Bd} {k : Nat} {x : Ins} (ht : c.threads[i]? = some t) (hx : t.code[k]? = some x) :
    (1 ≤ x.op ∧ x.op ≤ 17) ∧ (2 ≤ x.op → x.op ≤ 9 → 0 ≤ inside c.secs i k) ∧ ((x.op = 13 ∨ x.op = 14) → 0 ≤ x.to ∧ x.to < t.code.length ∧ inside c.secs i x.to = inside c.secs i k) ∧
    (x.op = 17 ↔ (k : Int) + 1 = t.code.length) ∧ (x.op = 16 → inside c.secs i k = x.n) ∧ (x.op = 15 → inside c.secs i ((k : Int) + 1) = x.n) := by
  have h := (g.ths i t ht).2.2.2.2.2 k x hx
  unfold insOk at h
  simp only [Bool.and_eq_true] at h
  obtain ⟨h1, h2, h3, h4, h5⟩ := h
  have sec : ∀ n : Int, isIn n c.secs.length = true → ∃ (m : Nat) (s : Sec), n = m ∧ c.secs[m]? = some s ∧ c.secs.getD n.toNat Sec.z = s := fun n hn => by
    obtain ⟨m, rfl, hm⟩ := isIn_nat hn
    exact ⟨m, c.secs[m], rfl, by simp [hm], by simp [List.getD, hm]⟩
  refine ⟨by simpa [isOp] using h1, ?_, ?_, ?_, ?_, ?_⟩
  · intro a b
    have : touchB x.op = true := by simp [touchB, a, b]
    rw [this] at h3
    simpa using h3
  · intro ho
    unfold fieldsB at h4
    simp only [Bool.and_eq_true] at h4
    have h6 := h4.2.2.2.2.1
    have : hasT x.op = true := by rcases ho with e | e <;> rw [e] <;> rfl
    rw [this] at h6
    simp only [fld, if_true, tgtB, Bool.and_eq_true, beq_iff_eq] at h6
    exact ⟨(isIn_iff.1 h6.1).1, (isIn_iff.1 h6.1).2, h6.2⟩
  · have : decide ((k : Int) = (t.code.length : Int) - 1) = (x.op == 17) := by simpa using h2
    rw [Bool.eq_iff_iff, decide_eq_true_eq, beq_iff_eq] at this
    rw [← this]; omega
  · intro ho
    have : agreesB c i t k x = (isIn x.n c.secs.length && ((c.secs.getD x.n.toNat Sec.z).th == (i : Int) && (c.secs.getD x.n.toNat Sec.z).to == (k : Int))) := by unfold agreesB; rw [ho]; rfl
    rw [this] at h5
    simp only [Bool.and_eq_true, beq_iff_eq] at h5
    obtain ⟨m, s, e1, e2, e3⟩ := sec x.n h5.1
    rw [e3] at h5
    rw [e1]
    refine inside_of g e2 ?_
    have := (g.secs m s e2).1.2.2.2.2
    simp only [hitS, Bool.and_eq_true, beq_iff_eq, decide_eq_true_eq]
    omega
  · intro ho
    have : agreesB c i t k x = (isIn x.n c.secs.length && ((c.secs.getD x.n.toNat Sec.z).th == (i : Int) && (c.secs.getD x.n.toNat Sec.z).fr == (k : Int))) := by unfold agreesB; rw [ho]; rfl
    rw [this] at h5
    simp only [Bool.and_eq_true, beq_iff_eq] at h5
    obtain ⟨m, s, e1, e2, e3⟩ := sec x.n h5.1
    rw [e3] at h5
    rw [e1]
    refine inside_of g e2 ?_
    have := (g.secs m s e2).1.2.2.2.2
    simp only [hitS, Bool.and_eq_true, beq_iff_eq, decide_eq_true_eq]
    omega
end Go.Proofs.YtkdpcaoocmbbhaaDoor
