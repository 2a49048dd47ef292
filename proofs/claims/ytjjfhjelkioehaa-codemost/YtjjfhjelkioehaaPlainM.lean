/- Another Most, and no sections: when such a code can be. Plain mathematics. -/
import Derived.Test.YtjjfhjelkioehaaPlain
namespace Go.Proofs.Ytjjfhjelkioehaa
set_option linter.unusedVariables false

/-- The code with another Most at one thread; v: its new row of threads, as a value. -/
def withMost (c : Cd) (th : Nat) (most : Int) (v : Value) : Cd := { c with threads := c.threads.set th { (c.threads.getD th Bd.z) with most := most }, tv := v }
/-- The code without sections. -/
def noSecs (c : Cd) (v : Value) : Cd := { c with secs := [], cv := v }

theorem most_get {c : Cd} {th : Nat} {most : Int} {v : Value} {i : Nat} {t' : Bd} (h : (withMost c th most v).threads[i]? = some t') :
    ∃ t, c.threads[i]? = some t ∧ t'.slots = t.slots ∧ t'.code = t.code ∧ (i ≠ th → t'.most = t.most) ∧ (i = th → t'.most = most) := by
  unfold withMost at h
  simp only [List.getElem?_set] at h
  split at h
  · rename_i e
    subst e
    split at h
    · rename_i hl
      have e1 : c.threads.getD th Bd.z = c.threads[th] := by simp [List.getD, hl]
      rw [e1] at h
      cases h
      exact ⟨c.threads[th], by simp [hl], rfl, rfl, fun k => absurd rfl k, fun _ => rfl⟩
    · cases h
  · rename_i e
    exact ⟨t', h, rfl, rfl, fun _ => rfl, fun k => absurd k.symm e⟩

theorem get_most {c : Cd} {th : Nat} {most : Int} {v : Value} {i : Nat} {t : Bd} (h : c.threads[i]? = some t) :
    ∃ t', (withMost c th most v).threads[i]? = some t' ∧ t'.slots = t.slots ∧ t'.code = t.code ∧ (i ≠ th → t'.most = t.most) ∧ (i = th → t'.most = most) := by
  have hl := (List.getElem?_eq_some_iff.1 h).1
  have hl' : i < (withMost c th most v).threads.length := by unfold withMost; simpa using hl
  have hx : (withMost c th most v).threads[i]? = some ((withMost c th most v).threads[i]'hl') := by simp [hl']
  obtain ⟨t2, h2, r⟩ := most_get hx
  rw [h] at h2; cases h2
  exact ⟨_, hx, r⟩

theorem insAt_most (c : Cd) (th : Nat) (most : Int) (v : Value) (i k : Int) : insAt (withMost c th most v) i k = insAt c i k := by
  have hlen : (withMost c th most v).threads.length = c.threads.length := by unfold withMost; simp
  have hcode : ((withMost c th most v).threads.getD i.toNat Bd.z).code = (c.threads.getD i.toNat Bd.z).code := by
    by_cases hi : i.toNat < c.threads.length
    · have hx : c.threads[i.toNat]? = some c.threads[i.toNat] := by simp [hi]
      obtain ⟨t', h1, h2, h3, _⟩ := get_most (th := th) (most := most) (v := v) hx
      simp only [List.getD, h1, hx, Option.getD_some, h3]
    · have h1 : c.threads[i.toNat]? = none := by simp; omega
      have h2 : (withMost c th most v).threads[i.toNat]? = none := by simp; rw [hlen]; omega
      simp only [List.getD, h1, h2]
  unfold insAt
  rw [hlen, hcode]

theorem insOk_most (c : Cd) (th : Nat) (most : Int) (v : Value) (i k : Int) (t t' : Bd) (x : Ins) (h1 : t'.slots = t.slots) (h2 : t'.code = t.code) : insOk (withMost c th most v) i t' k x = insOk c i t k x := by
  obtain ⟨s, sv, cd, cv, m⟩ := t
  obtain ⟨s', sv', cd', cv', m'⟩ := t'
  simp only at h1 h2
  subst h1 h2
  rfl

theorem good_withMost {c : Cd} (g : GoodP c) {th : Nat} {t : Bd} (ht : c.threads[th]? = some t) (most : Int) (v : Value) : GoodP (withMost c th most v) ↔ (0 ≤ most ∧ most ≤ 4096) := by
  constructor
  · intro h
    obtain ⟨t', h1, h2, h3, h4, h5⟩ := get_most (th := th) (most := most) (v := v) ht
    have := h.ths th t' h1
    rw [← h5 rfl]
    exact ⟨this.2.1, this.2.2.1⟩
  · rintro ⟨m0, m1⟩
    refine ⟨g.l1, g.l2, by unfold withMost; simpa using g.l3, g.l4, g.l5, g.flds, g.cells1, g.cells2, ?_, ?_, ?_, ?_⟩
    · intro i t' hi j l hj
      obtain ⟨t2, h1, h2, h3, _⟩ := most_get hi
      rw [h2] at hj
      exact g.slots i t2 h1 j l hj
    · intro i s hi
      obtain ⟨a, b⟩ := g.secs i s hi
      refine ⟨?_, b⟩
      unfold secOk at a ⊢
      rw [insAt_most, insAt_most]
      exact a
    · intro i s hi
      have a := g.sites i s hi
      unfold steOk at a ⊢
      rw [insAt_most]
      exact a
    · intro i t' hi
      obtain ⟨t2, h1, h2, h3, h4, h5⟩ := most_get hi
      obtain ⟨a1, a2, a3, a4, a5, a6⟩ := g.ths i t2 h1
      unfold bdOk
      rw [h2, h3]
      refine ⟨a1, ?_, ?_, a4, a5, fun j x hx => ?_⟩
      · by_cases e : i = th
        · rw [h5 e]; exact m0
        · rw [h4 e]; exact a2
      · by_cases e : i = th
        · rw [h5 e]; exact m1
        · rw [h4 e]; exact a3
      · rw [insOk_most c th most v i j t2 t' x h2 h3]
        exact a6 j x hx

theorem insAt_none (c : Cd) (v : Value) (i k : Int) : insAt (noSecs c v) i k = insAt c i k := rfl

theorem good_nosecs {c : Cd} (g : GoodP c) (v : Value) : GoodP (noSecs c v) ↔ c.secs.length = 0 := by
  constructor
  · intro h
    cases hl : c.secs with
    | nil => rfl
    | cons s r =>
      exfalso
      have hs : c.secs[0]? = some s := by rw [hl]; rfl
      obtain ⟨⟨o1, o2, _⟩, _⟩ := g.secs 0 s hs
      unfold insAt at o1 o2
      split at o1
      · rename_i hc
        rw [Bool.and_eq_true] at hc
        obtain ⟨i, e1, hi⟩ := isIn_nat hc.1
        have hx : c.threads[i]? = some c.threads[i] := by simp [hi]
        have et : c.threads.getD s.th.toNat Bd.z = c.threads[i] := by rw [e1, Int.toNat_natCast]; simp [List.getD, hi]
        rw [et] at hc o1
        obtain ⟨k, e2, hk⟩ := isIn_nat hc.2
        have hy : (c.threads[i]).code[k]? = some ((c.threads[i]).code[k]) := by simp [hk]
        have ex : (c.threads[i]).code.getD s.fr.toNat Ins.z = (c.threads[i]).code[k] := by rw [e2, Int.toNat_natCast]; simp [List.getD, hk]
        rw [ex] at o1
        have := (h.ths i (c.threads[i]) hx).2.2.2.2.2 k _ hy
        unfold insOk at this
        simp only [Bool.and_eq_true] at this
        have ha := this.2.2.2.2
        unfold agreesB at ha
        rw [o1] at ha
        have : isIn (c.threads[i].code[k]).n (noSecs c v).secs.length = false := by
          unfold noSecs isIn
          simp
        simp [this] at ha
      · simp [Ins.z] at o1
  · intro hl
    have e : c.secs = [] := List.length_eq_zero_iff.1 hl
    have e2 : noSecs c v = { c with cv := v } := by unfold noSecs; rw [← e]
    rw [e2]
    exact ⟨g.l1, g.l2, g.l3, g.l4, g.l5, g.flds, g.cells1, g.cells2, g.slots, g.secs, g.sites, g.ths⟩
end Go.Proofs.Ytjjfhjelkioehaa
