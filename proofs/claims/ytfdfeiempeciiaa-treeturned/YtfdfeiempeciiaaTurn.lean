/- A program in whose first thread one statement is put anew. -/
import Derived.Test.YtfdfeiempeciiaaMake1
import Derived.Test.YtfdfeiempeciiaaBare
namespace Go.Proofs.Ytfdfeiempeciiaa
open Go.ChangeShapes Go.WideShapes Go.ChangeAt Go.RowKit
set_option linter.unusedVariables false

def Pg.turn (q : Pg) (t0 : Th) (rest : List Th) (i : Nat) (s : St) : Pg := { q with threads := { t0 with body := t0.body.set i s } :: rest }

theorem eqL_set_not (l m : List St) (h : l.map St.bare = m.map St.bare) (i : Nat) (s s' : St) (hi : m[i]? = some s) (hs : ∀ x : St, x.bare = s.bare → x.same s' = false ∧ s'.same x = false) :
    eqL St.same l (m.set i s') = false ∧ eqL St.same (m.set i s') l = false := by
  have hlen : l.length = m.length := by have := congrArg List.length h; simpa using this
  have him := (List.getElem?_eq_some_iff.1 hi).1
  obtain ⟨x, hx⟩ : ∃ x, l[i]? = some x := ⟨_, List.getElem?_eq_getElem (by omega)⟩
  have hb : x.bare = s.bare := by
    have := congrArg (fun l => l[i]?) h
    simpa [hx, hi] using this
  have hset : (m.set i s')[i]? = some s' := by rw [List.getElem?_set_self (by omega)]
  exact ⟨eqL_not _ _ _ i x s' hx hset (hs x hb).1, eqL_not _ _ _ i s' x hset hx (hs x hb).2⟩

theorem eqL_set_yes (l m : List St) (h : l.map St.bare = m.map St.bare) (i : Nat) (s s' : St) (hi : m[i]? = some s) (hs : ∀ x : St, x.bare = s.bare → x.same s' = true ∧ s'.same x = true) :
    eqL St.same l (m.set i s') = true ∧ eqL St.same (m.set i s') l = true := by
  have hlen : l.length = m.length := by have := congrArg List.length h; simpa using this
  have key : ∀ (j : Nat) (x y : St), l[j]? = some x → (m.set i s')[j]? = some y → x.same y = true ∧ y.same x = true := by
    intro j x y hx hy
    by_cases e : i = j
    · subst e
      have him := (List.getElem?_eq_some_iff.1 hi).1
      rw [List.getElem?_set_self (by omega)] at hy
      cases hy
      refine hs x ?_
      have := congrArg (fun l => l[i]?) h
      simpa [hx, hi] using this
    · rw [List.getElem?_set_ne e] at hy
      have hb : x.bare = y.bare := by
        have := congrArg (fun l => l[j]?) h
        simpa [hx, hy] using this
      exact ⟨St.same_bare _ _ hb, St.same_bare _ _ hb.symm⟩
  exact ⟨eqL_all _ _ _ (by simp [hlen]) (fun j x y hx hy => (key j x y hx hy).1), eqL_all _ _ _ (by simp [hlen]) (fun j y x hy hx => (key j x y hx hy).2)⟩

theorem turn_parts (p q : Pg) (h : p.bare = q.bare) (t0 : Th) (rest : List Th) (ht : q.threads = t0 :: rest) : ∃ p0 prest, p.threads = p0 :: prest ∧ p0.body.map St.bare = t0.body.map St.bare := by
  simp only [Pg.bare, Pg.mk.injEq] at h
  obtain ⟨-, -, -, -, -, -, h4, -⟩ := h
  rw [ht] at h4
  cases hp : p.threads with
  | nil => rw [hp] at h4; simp at h4
  | cons p0 prest =>
    rw [hp] at h4
    simp only [List.map_cons, List.cons.injEq, Th.bare, Th.mk.injEq] at h4
    exact ⟨p0, prest, rfl, h4.1.1⟩

theorem turn_not (p q : Pg) (h : p.bare = q.bare) (t0 : Th) (rest : List Th) (ht : q.threads = t0 :: rest) (i : Nat) (s s' : St) (hi : t0.body[i]? = some s) (hs : ∀ x : St, x.bare = s.bare → x.same s' = false ∧ s'.same x = false) :
    p.same (q.turn t0 rest i s') = false ∧ (q.turn t0 rest i s').same p = false := by
  obtain ⟨p0, prest, hp, hb⟩ := turn_parts p q h t0 rest ht
  obtain ⟨e1, e2⟩ := eqL_set_not _ _ hb i s s' hi hs
  simp only [Pg.same, Pg.turn, hp, eqL, Th.same, e1, e2]
  simp

theorem turn_yes (p q : Pg) (h : p.bare = q.bare) (t0 : Th) (rest : List Th) (ht : q.threads = t0 :: rest) (i : Nat) (s s' : St) (hi : t0.body[i]? = some s) (hs : ∀ x : St, x.bare = s.bare → x.same s' = true ∧ s'.same x = true) :
    p.same (q.turn t0 rest i s') = true ∧ (q.turn t0 rest i s').same p = true := by
  obtain ⟨p0, prest, hp, hb⟩ := turn_parts p q h t0 rest ht
  obtain ⟨e1, e2⟩ := eqL_set_yes _ _ hb i s s' hi hs
  have k1 := Pg.same_bare p q h
  have k2 := Pg.same_bare q p h.symm
  simp only [Pg.same, hp, ht, eqL, Bool.and_eq_true] at k1 k2
  obtain ⟨a1, a2, a3, -, a4⟩ := k1
  obtain ⟨b1, b2, b3, -, b4⟩ := k2
  simp only [Pg.same, Pg.turn, hp, eqL, Th.same, e1, e2, a1, a2, a3, a4, b1, b2, b3, b4]
  simp

/-- A program, the row of its first thread at block g, all else elsewhere. -/
structure QAt (B : Nat) (w : World) (q : Pg) (t0 : Th) (rest : List Th) (g cap : Nat) (cur : List Value) (e : TypeId) : Prop where
  thr : q.threads = t0 :: rest
  bv : t0.bv = .slice (some ⟨g, 0, none⟩) t0.body.length cap
  cap : t0.body.length ≤ cap
  few : t0.body.length < 140737488355328
  low : B ≤ g
  var : VarAt w g cur e
  take : cur.take (t0.body.length * 58) = t0.body.flatMap St.cells
  recs : RowAt w (fun h => B ≤ h ∧ h ≠ g) 4 q.rv q.recs.length (q.recs.flatMap Rc.cells) ∧ ∀ k, k ∈ q.recs → k.ok w (fun h => B ≤ h ∧ h ≠ g)
  globs : nmsOk w (fun h => B ≤ h ∧ h ≠ g) q.gv q.globs
  funs : RowAt w (fun h => B ≤ h ∧ h ≠ g) 5 q.fv q.funs.length (q.funs.flatMap Fn.cells) ∧ ∀ k, k ∈ q.funs → k.ok w (fun h => B ≤ h ∧ h ≠ g)
  ths : RowAt w (fun h => B ≤ h ∧ h ≠ g) 3 q.tv q.threads.length (q.threads.flatMap Th.cells)
  sts : ∀ s ∈ t0.body, s.ok w (fun h => B ≤ h ∧ h ≠ g)
  rst : ∀ t ∈ rest, t.ok w (fun h => B ≤ h ∧ h ≠ g)

theorem QAt.of_make {w w' : World} {N : List Int} {q : Pg} (h : MakeOut w w' N q) (t0 : Th) (rest : List Th) (ht : q.threads = t0 :: rest) (hne : t0.body ≠ []) : ∃ g cap cur e, QAt w.heap.size w' q t0 rest g cap cur e := by
  have ho := h.ok.2.2.2.2 t0 (by rw [ht]; simp)
  have hl : t0.body.length ≠ 0 := by simpa using hne
  obtain ⟨⟨hlen, few⟩, hrow⟩ := ho.1
  rcases hrow with ⟨-, h0⟩ | ⟨g, cap, cur, e, hv, hF, hn, hg, htk⟩
  · exact absurd h0 hl
  · obtain ⟨a1, a2, a3, a4, a5, a6⟩ := h.apart t0 rest ht
    have hb : t0.bv.ownBlock = some g := by rw [hv]; rfl
    have hne : ∀ h, w.heap.size ≤ h ∧ t0.bv.ownBlock ≠ some h → w.heap.size ≤ h ∧ h ≠ g := fun h hh => ⟨hh.1, fun e => hh.2 (by rw [hb, e])⟩
    exact ⟨g, cap, cur.toList, e, ht, hv, hn, few, hF, by simpa [VarAt] using hg, htk, ⟨a1.1.mono (fun h hh _ => hne h hh), fun k hk => nmsOk.mono (a1.2 k hk) (fun h hh _ => hne h hh)⟩, a2.mono (fun h hh _ => hne h hh),
      ⟨a3.1.mono (fun h hh _ => hne h hh), fun k hk => ⟨(a3.2 k hk).1.mono (fun h hh _ => hne h hh), (a3.2 k hk).2.mono (fun h hh _ => hne h hh)⟩⟩, a4.mono (fun h hh _ => hne h hh), fun s hs => (a5 s hs).mono (fun h hh _ => hne h hh), fun t ht => stsOk.mono (a6 t ht) (fun h hh _ => hne h hh)⟩

theorem QAt.row {B : Nat} {w : World} {q : Pg} {t0 : Th} {rest : List Th} {g cap : Nat} {cur : List Value} {e : TypeId} (h : QAt B w q t0 rest g cap cur e) : RowAt w (fun h => B ≤ h) 58 t0.bv t0.body.length (t0.body.flatMap St.cells) :=
  ⟨⟨flat_len _ 58 St.len _, h.few⟩, .inr ⟨g, cap, cur.toArray, e, h.bv, h.low, h.cap, h.var, by simpa using h.take⟩⟩

theorem QAt.ok {B : Nat} {w : World} {q : Pg} {t0 : Th} {rest : List Th} {g cap : Nat} {cur : List Value} {e : TypeId} (h : QAt B w q t0 rest g cap cur e) : q.ok w (fun h => B ≤ h) := by
  refine ⟨⟨h.recs.1.mono (fun _ hh _ => hh.1), fun k hk => nmsOk.mono (h.recs.2 k hk) (fun _ hh _ => hh.1)⟩, h.globs.mono (fun _ hh _ => hh.1), ⟨h.funs.1.mono (fun _ hh _ => hh.1), fun k hk => ⟨(h.funs.2 k hk).1.mono (fun _ hh _ => hh.1), (h.funs.2 k hk).2.mono (fun _ hh _ => hh.1)⟩⟩, h.ths.mono (fun _ hh _ => hh.1), fun t ht => ?_⟩
  rw [h.thr] at ht
  simp only [List.mem_cons] at ht
  rcases ht with rfl | ht
  · exact ⟨h.row, fun s hs => (h.sts s hs).mono (fun _ hh _ => hh.1)⟩
  · exact stsOk.mono (h.rst t ht) (fun _ hh _ => hh.1)

theorem QAt.keep {B : Nat} {w w' : World} {q : Pg} {t0 : Th} {rest : List Th} {g cap : Nat} {cur : List Value} {e : TypeId} (h : QAt B w q t0 rest g cap cur e) (hk : ∀ b, B ≤ b → b < w.heap.size → w'.heap[b]? = w.heap[b]?) : QAt B w' q t0 rest g cap cur e :=
  ⟨h.thr, h.bv, h.cap, h.few, h.low, (hk g h.low h.var.lt).trans h.var, h.take, ⟨h.recs.1.keep (fun b hb hl => hk b hb.1 hl), fun k hm => nmsOk.keep (h.recs.2 k hm) (fun b hb hl => hk b hb.1 hl)⟩, h.globs.keep (fun b hb hl => hk b hb.1 hl),
    ⟨h.funs.1.keep (fun b hb hl => hk b hb.1 hl), fun k hm => ⟨(h.funs.2 k hm).1.keep (fun b hb hl => hk b hb.1 hl), (h.funs.2 k hm).2.keep (fun b hb hl => hk b hb.1 hl)⟩⟩, h.ths.keep (fun b hb hl => hk b hb.1 hl), fun s hs => (h.sts s hs).keep (fun b hb hl => hk b hb.1 hl), fun t ht => stsOk.keep (h.rst t ht) (fun b hb hl => hk b hb.1 hl)⟩

theorem flat_set {α : Type} (f : α → List Value) (s : Nat) (hs : ∀ x, (f x).length = s) (l : List α) (k : Nat) (x x' : α) (hk : l[k]? = some x) (j : Nat) (v : Value) (hj : j < s) (he : f x' = (f x).set j v) : (l.set k x').flatMap f = (l.flatMap f).set (k * s + j) v := by
  induction l generalizing k with
  | nil => simp at hk
  | cons a l ih =>
    cases k with
    | zero =>
      simp only [List.length_cons, Nat.zero_lt_succ, List.getElem?_eq_getElem, List.getElem_cons_zero, Option.some.injEq] at hk
      subst hk
      simp only [List.set_cons_zero, List.flatMap_cons, he, Nat.zero_mul, Nat.zero_add]
      rw [List.set_append_left _ _ (by rw [hs]; exact hj)]
    | succ k =>
      have e : (k + 1) * s + j - s = k * s + j := by rw [Nat.add_mul]; omega
      simp only [List.set_cons_succ, List.flatMap_cons]
      rw [ih k (by simpa using hk), List.set_append_right _ _ (by rw [hs, Nat.add_mul]; omega), hs, e]

/-- A cell of the row is put anew. -/
theorem QAt.set {B : Nat} {w w' : World} {q : Pg} {t0 : Th} {rest : List Th} {g cap : Nat} {cur : List Value} {e : TypeId} (h : QAt B w q t0 rest g cap cur e) {i j : Nat} {s s' : St} {v : Value} (hi : t0.body[i]? = some s) (hj : j < 58) (hc : s'.cells = s.cells.set j v)
    (hv : VarAt w' g (cur.set (i * 58 + j) v) e) (ht : Touch (fun b => b = g) w w') (ho : s'.ok w' (fun h => B ≤ h ∧ h ≠ g)) : QAt B w' (q.turn t0 rest i s') { t0 with body := t0.body.set i s' } rest g cap (cur.set (i * 58 + j) v) e := by
  have him := (List.getElem?_eq_some_iff.1 hi).1
  have k : ∀ b, (B ≤ b ∧ b ≠ g) → b < w.heap.size → w'.heap[b]? = w.heap[b]? := fun b hb hl => ht.block b hl hb.2
  refine ⟨rfl, by simpa using h.bv, by simpa using h.cap, by simpa using h.few, h.low, hv, ?_, ⟨h.recs.1.keep k, fun x hm => nmsOk.keep (h.recs.2 x hm) k⟩, h.globs.keep k,
    ⟨h.funs.1.keep k, fun x hm => ⟨(h.funs.2 x hm).1.keep k, (h.funs.2 x hm).2.keep k⟩⟩, ?_, fun x hx => ?_, fun t ht => stsOk.keep (h.rst t ht) k⟩
  · rw [flat_set St.cells 58 St.len t0.body i s s' hi j v hj hc, ← h.take]
    simp only [List.length_set]
    rw [List.take_set]
  · have := h.ths.keep k
    rw [h.thr] at this
    exact this
  · rcases List.mem_or_eq_of_mem_set hx with hx | rfl
    · exact (h.sts x hx).keep k
    · exact ho

theorem QAt.elem {B : Nat} {w : World} {q : Pg} {t0 : Th} {rest : List Th} {g cap : Nat} {cur : List Value} {e : TypeId} (h : QAt B w q t0 rest g cap cur e) {i : Nat} {s : St} (hi : t0.body[i]? = some s) (j : Nat) {v : Value} (hj : s.cells[j]? = some v) : w.cell? ⟨g, i * 58 + j, none⟩ = some v := by
  refine h.var.cell (i * 58 + j) ?_
  have := flat_get St.cells 58 St.len t0.body i s hi j v hj
  rw [← h.take, List.getElem?_take] at this
  split at this
  · exact this
  · simp at this
theorem QAt.room {B : Nat} {w : World} {q : Pg} {t0 : Th} {rest : List Th} {g cap : Nat} {cur : List Value} {e : TypeId} (h : QAt B w q t0 rest g cap cur e) {i : Nat} (hi : i < t0.body.length) (j : Nat) (hj : j < 58) : i * 58 + j < cur.length := by
  have := congrArg List.length h.take
  rw [flat_len St.cells 58 St.len, List.length_take] at this
  have h2 : (i + 1) * 58 ≤ t0.body.length * 58 := Nat.mul_le_mul_right 58 (by omega)
  rw [Nat.add_mul] at h2
  omega
end Go.Proofs.Ytfdfeiempeciiaa
