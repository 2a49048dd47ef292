/- A code in which one value is of nobody instead: it can be, and its least sets are no more. Plain mathematics. -/
import Derived.Test.YtkdpcaoocmbbhaaDoorM08
namespace Go.Proofs.YtkdpcaoocmbbhaaDoor
set_option linter.unusedVariables false
set_option linter.unusedSimpArgs false

def ins0 (x : Ins) (iv : Value) : Ins := ⟨x.op, x.dst, x.src, x.rc, x.n, x.to, [⟨1, 0, 0⟩], iv, x.index, x.xv⟩
def bd0 (b : Bd) (k : Nat) (x : Ins) (iv cv : Value) : Bd := ⟨b.slots, b.sv, b.code.set k (ins0 x iv), cv, b.most⟩
def cd0 (c : Cd) (i k : Nat) (b : Bd) (x : Ins) (iv cv tv : Value) : Cd := ⟨c.recs, c.rv, c.globs, c.gv, c.threads.set i (bd0 b k x iv cv), tv, c.sites, c.ev, c.secs, c.cv⟩
section
variable {c : Cd} {i k : Nat} {b : Bd} {x : Ins} {iv cv tv : Value}
theorem insOk_like {c d : Cd} {b b' : Bd} (h1 : d.recs = c.recs) (h2 : d.globs = c.globs) (h3 : d.sites = c.sites) (h4 : d.secs = c.secs) (h5 : b'.slots = b.slots) (h6 : b'.code.length = b.code.length) (th pl : Int) (y : Ins) : insOk d th b' pl y = insOk c th b pl y := by
  unfold insOk fieldsB agreesB hasFieldB holdsB siteB globAt fieldAt
  rw [h1, h2, h3, h4, h5, h6]
theorem good_push (n : Nat) : goodB n [⟨1, 0, 0⟩] = true := by rfl
theorem insOk_ins0 {th pl : Int} (h : insOk c th b pl x = true) (hI : hasI x.op = true) : insOk c th b pl (ins0 x iv) = true := by
  unfold insOk at h ⊢
  simp only [Bool.and_eq_true] at h ⊢
  obtain ⟨h1, h2, h3, h4, h5⟩ := h
  refine ⟨h1, h2, h3, ?_, h5⟩
  unfold fieldsB at h4 ⊢
  simp only [Bool.and_eq_true] at h4 ⊢
  obtain ⟨f1, f2, f3, f4, f5, f6, f7⟩ := h4
  refine ⟨f1, f2, f3, f4, f5, ?_, f7⟩
  show fld (hasI x.op) _ _ = true
  rw [hI]
  exact good_push _
theorem set_get {α : Type} {l : List α} {i j : Nat} {a y : α} (h : (l.set i a)[j]? = some y) : (j = i ∧ y = a ∧ i < l.length) ∨ (j ≠ i ∧ l[j]? = some y) := by
  by_cases e : j = i
  · subst e
    have hl := (List.getElem?_eq_some_iff.1 h).1
    rw [List.length_set] at hl
    rw [List.getElem?_set_self hl] at h
    exact .inl ⟨rfl, (Option.some.inj h).symm, hl⟩
  · rw [List.getElem?_set_ne (by omega)] at h
    exact .inr ⟨e, h⟩
theorem insAt_op (hb : c.threads[i]? = some b) (hx : b.code[k]? = some x) (th pl : Int) : (insAt (cd0 c i k b x iv cv tv) th pl).op = (insAt c th pl).op ∧ (insAt (cd0 c i k b x iv cv tv) th pl).n = (insAt c th pl).n := by
  have hit := (List.getElem?_eq_some_iff.1 hb).1
  have hkt := (List.getElem?_eq_some_iff.1 hx).1
  unfold insAt
  have e1 : (cd0 c i k b x iv cv tv).threads = c.threads.set i (bd0 b k x iv cv) := rfl
  rw [e1, List.length_set]
  by_cases e : th.toNat = i
  · have g1 : (c.threads.set i (bd0 b k x iv cv)).getD th.toNat Bd.z = bd0 b k x iv cv := by
      rw [e]; simp [List.getD, hit]
    have g2 : c.threads.getD th.toNat Bd.z = b := by rw [e]; simp [List.getD, hb]
    rw [g1, g2]
    have g3 : (bd0 b k x iv cv).code = b.code.set k (ins0 x iv) := rfl
    rw [g3, List.length_set]
    split
    · by_cases e2 : pl.toNat = k
      · have g4 : (b.code.set k (ins0 x iv)).getD pl.toNat Ins.z = ins0 x iv := by rw [e2]; simp [List.getD, hkt]
        have g5 : b.code.getD pl.toNat Ins.z = x := by rw [e2]; simp [List.getD, hx]
        rw [g4, g5]
        exact ⟨rfl, rfl⟩
      · have g4 : (b.code.set k (ins0 x iv)).getD pl.toNat Ins.z = b.code.getD pl.toNat Ins.z := by
          simp only [List.getD]; rw [List.getElem?_set_ne (by omega)]
        rw [g4]
        exact ⟨rfl, rfl⟩
    · exact ⟨rfl, rfl⟩
  · have g1 : (c.threads.set i (bd0 b k x iv cv)).getD th.toNat Bd.z = c.threads.getD th.toNat Bd.z := by
      simp only [List.getD]; rw [List.getElem?_set_ne (by omega)]
    rw [g1]
    exact ⟨rfl, rfl⟩
theorem good0 (g : GoodP c) (hb : c.threads[i]? = some b) (hx : b.code[k]? = some x) (hI : hasI x.op = true) : GoodP (cd0 c i k b x iv cv tv) := by
  have A := fun th pl => insAt_op (iv := iv) (cv := cv) (tv := tv) hb hx th pl
  refine ⟨g.l1, g.l2, ?_, g.l4, g.l5, g.flds, g.cells1, g.cells2, ?_, ?_, ?_, ?_⟩
  · show (c.threads.set _ _).length ≤ 4
    rw [List.length_set]
    exact g.l3
  · intro i' t ht j l hl
    rcases set_get ht with ⟨rfl, rfl, _⟩ | ⟨_, h⟩
    · exact g.slots _ b hb j l hl
    · exact g.slots i' t h j l hl
  · intro i' s hs
    obtain ⟨⟨a1, a2, a3, a4, a5⟩, h2⟩ := g.secs i' s hs
    exact ⟨⟨by rw [(A _ _).1]; exact a1, by rw [(A _ _).2]; exact a2, by rw [(A _ _).1]; exact a3, by rw [(A _ _).2]; exact a4, a5⟩, h2⟩
  · intro i' s hs
    obtain ⟨a1, a2⟩ := g.sites i' s hs
    exact ⟨by rw [(A _ _).1]; exact a1, by rw [(A _ _).2]; exact a2⟩
  · intro i' t ht
    rcases set_get ht with ⟨rfl, rfl, _⟩ | ⟨_, h⟩
    · obtain ⟨b1, b2, b3, b4, b5, b6⟩ := g.ths _ b hb
      refine ⟨b1, b2, b3, by show 0 < (b.code.set _ _).length; rw [List.length_set]; exact b4, by show (b.code.set _ _).length ≤ 256; rw [List.length_set]; exact b5, fun j y hy => ?_⟩
      rw [insOk_like (c := c) (d := cd0 c _ k b x iv cv tv) (b := b) (b' := bd0 b k x iv cv) rfl rfl rfl rfl rfl (by show (b.code.set _ _).length = _; rw [List.length_set])]
      rcases set_get hy with ⟨rfl, rfl, _⟩ | ⟨_, h⟩
      · exact insOk_ins0 (b6 _ x hx) hI
      · exact b6 j y h
    · obtain ⟨b1, b2, b3, b4, b5, b6⟩ := g.ths i' t h
      exact ⟨b1, b2, b3, b4, b5, fun j y hy => by rw [insOk_like (c := c) (d := cd0 c i k b x iv cv tv) (b := t) (b' := t) rfl rfl rfl rfl rfl rfl]; exact b6 j y hy⟩
theorem small0 (s : SmallP c) (hb : c.threads[i]? = some b) (hx : b.code[k]? = some x) : SmallP (cd0 c i k b x iv cv tv) := by
  refine ⟨s.l1, s.l2, ?_, s.l4, s.l5, s.flds, ?_, ?_, ?_⟩
  · show (c.threads.set _ _).length ≤ 1000
    rw [List.length_set]
    exact s.l3
  · intro i' t ht
    rcases set_get ht with ⟨rfl, rfl, _⟩ | ⟨_, h⟩
    · exact s.slots _ b hb
    · exact s.slots i' t h
  · intro i' t ht
    rcases set_get ht with ⟨rfl, rfl, _⟩ | ⟨_, h⟩
    · show (b.code.set _ _).length ≤ 1000
      rw [List.length_set]
      exact s.code _ b hb
    · exact s.code i' t h
  · intro i' t ht j y hy
    rcases set_get ht with ⟨rfl, rfl, _⟩ | ⟨_, h⟩
    · rcases set_get hy with ⟨rfl, rfl, _⟩ | ⟨_, h2⟩
      · exact ⟨by show 1 ≤ 1000; decide, (s.items _ b hb _ x hx).2⟩
      · exact s.items _ b hb j y h2
    · exact s.items i' t h j y hy
theorem shape0 (hb : c.threads[i]? = some b) : shapeC (cd0 c i k b x iv cv tv) = shapeC c := by
  unfold shapeC
  have : (cd0 c i k b x iv cv tv).threads.map (fun t => t.slots.length) = c.threads.map (fun t => t.slots.length) := by
    apply List.ext_getElem?
    intro j
    show ((c.threads.set i (bd0 b k x iv cv)).map _)[j]? = _
    rw [List.getElem?_map, List.getElem?_map]
    by_cases e : j = i
    · subst e
      have hl := (List.getElem?_eq_some_iff.1 hb).1
      rw [List.getElem?_set_self hl, hb]
      rfl
    · rw [List.getElem?_set_ne (by omega)]
  rw [this]
  rfl
theorem closed0 (hb : c.threads[i]? = some b) (hx : b.code[k]? = some x) (ho : x.op = 1 ∨ x.op = 5 ∨ x.op = 6) {T : List (List Nat)} (h : Closed c T) : Closed (cd0 c i k b x iv cv tv) T := by
  have hl : (cd0 c i k b x iv cv tv).threads.length = c.threads.length := List.length_set ..
  intro i' t ht j y hy
  rcases set_get ht with ⟨rfl, rfl, _⟩ | ⟨_, h1⟩
  · rcases set_get hy with ⟨rfl, rfl, _⟩ | ⟨_, h2⟩
    · refine ⟨fun _ _ => Sub.zero _, fun e _ => ?_, fun e _ => ?_, fun _ _ => Sub.zero _, fun _ _ k' _ _ _ => Sub.zero _, fun e _ => ?_⟩
      · have e' : x.op = 2 := e
        omega
      · have e' : x.op = 3 := e
        omega
      · have e' : x.op = 8 ∨ x.op = 9 := e
        omega
    · have K := h _ b hb j y h2
      exact ⟨K.o1, by rw [hl]; exact K.o2, by rw [hl]; exact K.o3, by rw [hl]; exact K.o5, by rw [hl]; exact K.o6, K.o8⟩
  · have K := h i' t h1 j y hy
    exact ⟨K.o1, by rw [hl]; exact K.o2, by rw [hl]; exact K.o3, by rw [hl]; exact K.o5, by rw [hl]; exact K.o6, K.o8⟩
/-- With one thing less done nothing more is meant. -/
theorem less0 (hb : c.threads[i]? = some b) (hx : b.code[k]? = some x) (ho : x.op = 1 ∨ x.op = 5 ∨ x.op = 6) {R T : List (List Nat)} (h : Least c R) (h' : Least (cd0 c i k b x iv cv tv) T) : shp T = shp R ∧ LeR T R :=
  ⟨h'.1.1.trans ((shape0 hb).trans h.1.1.symm), h'.1.2 R (h.1.1.trans (shape0 hb).symm) (closed0 hb hx ho h.2)⟩
end
end Go.Proofs.YtkdpcaoocmbbhaaDoor
