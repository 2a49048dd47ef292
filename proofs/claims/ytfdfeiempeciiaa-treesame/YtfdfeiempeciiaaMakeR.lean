/- Make: what holds while threads are made. -/
import Derived.Test.YtfdfeiempeciiaaMakeQ
namespace Go.Proofs.Ytfdfeiempeciiaa
open Go.ChangeShapes Go.WideShapes Go.ChangeAt Go.RowKit
set_option linter.unusedVariables false

theorem grow_old {α : Type} (ok : World → (Nat → Prop) → α → Prop)
    (kp : ∀ {w w' : World} {F : Nat → Prop} {x : α}, ok w F x → (∀ g, F g → g < w.heap.size → w'.heap[g]? = w.heap[g]?) → ok w' F x)
    (mo : ∀ {w : World} {F G : Nat → Prop} {x : α}, ok w F x → (∀ g, F g → g < w.heap.size → G g) → ok w G x)
    {wr w4 w6 : World} {lo : Nat} {B : Option Nat} {vo : Value} {g len cap : Nat} {y : α}
    (h : ok wr (fun b => lo < b ∧ B ≠ some b ∧ vo.ownBlock ≠ some b) y) (z4 : wr.heap.size ≤ w4.heap.size)
    (k1 : ∀ b, lo < b → b < wr.heap.size → w4.heap[b]? = wr.heap[b]?)
    (k2 : ∀ b, lo < b → vo.ownBlock ≠ some b → b < w4.heap.size → w6.heap[b]? = w4.heap[b]?) (hat : vo.ownBlock = some g ∨ g = w4.heap.size + 1) :
    ok w6 (fun b => lo < b ∧ B ≠ some b ∧ (Value.slice (some ⟨g, 0, none⟩) len cap).ownBlock ≠ some b) y := by
  have h2 := mo (G := fun b => (lo < b ∧ B ≠ some b ∧ vo.ownBlock ≠ some b) ∧ b < wr.heap.size) h (fun b hb hl => ⟨hb, hl⟩)
  have h3 := kp (w' := w4) h2 (fun b hb hl => k1 b hb.1.1 hb.2)
  have h4 := kp (w' := w6) h3 (fun b hb hl => k2 b hb.1.1 hb.1.2.2 hl)
  exact mo h4 (fun b hb hl => ⟨hb.1.1, hb.1.2.1, fun e => by
    simp [Value.ownBlock] at e
    subst e
    rcases hat with h | h
    · exact hb.1.2.2 h
    · omega⟩)
theorem grow_new {α : Type} (ok : World → (Nat → Prop) → α → Prop)
    (kp : ∀ {w w' : World} {F : Nat → Prop} {x : α}, ok w F x → (∀ g, F g → g < w.heap.size → w'.heap[g]? = w.heap[g]?) → ok w' F x)
    (mo : ∀ {w : World} {F G : Nat → Prop} {x : α}, ok w F x → (∀ g, F g → g < w.heap.size → G g) → ok w G x)
    {wr w4 w6 : World} {lo : Nat} {B : Option Nat} {vo : Value} {g len cap : Nat} {x : α}
    (hx : ok w4 (fun b => wr.heap.size ≤ b ∧ B ≠ some b) x) (hlo : lo < wr.heap.size) (z4 : wr.heap.size ≤ w4.heap.size)
    (hrow : ∀ b, vo.ownBlock = some b → lo < b ∧ b < wr.heap.size)
    (k2 : ∀ b, lo < b → vo.ownBlock ≠ some b → b < w4.heap.size → w6.heap[b]? = w4.heap[b]?) (hat : vo.ownBlock = some g ∨ g = w4.heap.size + 1) :
    ok w6 (fun b => lo < b ∧ B ≠ some b ∧ (Value.slice (some ⟨g, 0, none⟩) len cap).ownBlock ≠ some b) x := by
  have h2 := mo (G := fun b => (wr.heap.size ≤ b ∧ B ≠ some b) ∧ b < w4.heap.size) hx (fun b hb hl => ⟨hb, hl⟩)
  have h4 := kp (w' := w6) h2 (fun b hb hl => k2 b (by omega) (fun e => by have := hrow b e; omega) hl)
  exact mo h4 (fun b hb hl => ⟨by omega, hb.1.2, fun e => by
    simp [Value.ownBlock] at e
    subst e
    rcases hat with h | h
    · have := hrow _ h
      omega
    · omega⟩)

/-- The first thread's row is its own. -/
def Apart (wr : World) (h3 : Nat) (vo : Value) (acc : List Th) : Prop := ∀ t0 rest, acc = t0 :: rest →
  (∀ s ∈ t0.body, s.ok wr (fun g => h3 < g ∧ t0.bv.ownBlock ≠ some g ∧ vo.ownBlock ≠ some g)) ∧ (∀ t ∈ rest, t.ok wr (fun g => h3 < g ∧ t0.bv.ownBlock ≠ some g ∧ vo.ownBlock ≠ some g)) ∧
  (∀ g, t0.bv.ownBlock = some g → h3 < g ∧ g < wr.heap.size ∧ vo.ownBlock ≠ some g)

/-- While threads are made. -/
structure ThAt (w wr : World) (v : Value) (N : List Int) (h2 h3 : Nat) (recs : List Rc) (rv : Value) (globs : List Nm) (gv : Value) (funs : List Fn) (fv : Value) (T : (List Th × Nat) × Nat) (vo : Value) (acc : List Th) (n i l : Nat) : Prop where
  at_ : PAt w wr v N l i [rv, gv, fv, vo]
  ah : Ahead w wr h2 recs rv globs gv
  fns : RowAt wr (fun g => h2 < g ∧ g ≤ h3) 5 fv funs.length (funs.flatMap Fn.cells) ∧ ∀ k, k ∈ funs → k.ok wr (fun g => h2 < g ∧ g ≤ h3)
  own : wr.ownsRow (h3 + 1) 37 3 vo acc.length (acc.flatMap Th.cells)
  ok : ∀ x ∈ acc, x.ok wr (fun g => h3 < g ∧ vo.ownBlock ≠ some g)
  tr : ∀ x ∈ acc, ∀ s ∈ x.body, s.right.e.tr.toList ≠ [122]
  fst : Apart wr h3 vo acc
  rest : T = ((acc.map Th.bare ++ (thsM N n i l).1.1, (thsM N n i l).1.2), (thsM N n i l).2)
  few : n + acc.length ≤ 100
  low : w.heap.size + 2 ≤ h2
  mid : h2 ≤ h3
  big : h3 < wr.heap.size

theorem ThAt.next {w wr w4 w5 : World} {v : Value} {N : List Int} {h2 h3 : Nat} {recs : List Rc} {rv : Value} {globs : List Nm} {gv : Value} {funs : List Fn} {fv : Value} {T : (List Th × Nat) × Nat} {p : Option Addr} {acc : List Th} {c n i l : Nat} {x : Th} {o : Obj} {g cap : Nat}
    (h : ThAt w wr v N h2 h3 recs rv globs gv funs fv T (.slice p acc.length c) acc (n + 1) i l) (hm : Made wr (w.heap.size + 1) v N (rowM N 3 i l).2 (rowM N 3 i l).1.2 w4)
    (hx : x.ok w4 (fun b => wr.heap.size ≤ b)) (hxo : ∀ s ∈ x.body, s.ok w4 (fun b => wr.heap.size ≤ b ∧ x.bv.ownBlock ≠ some b)) (hxb : ∀ b, x.bv.ownBlock = some b → wr.heap.size ≤ b ∧ b < w4.heap.size) (hxt : ∀ s ∈ x.body, s.right.e.tr.toList ≠ [122])
    (hb : x.bare = ⟨(rowM N 3 i l).1.1, .slice none 0 0, 0, 0⟩)
    (hown : w5.ownsRow (h3 + 1) 37 3 (.slice (some ⟨g, 0, none⟩) (acc.length + 1) cap) (acc.length + 1) (acc.flatMap Th.cells ++ x.cells)) (hgrow : (w4.alloc o).grownBy w5 (Value.slice p acc.length c).ownBlock)
    (hat : (Value.slice p acc.length c).ownBlock = some g ∨ g = w4.heap.size + 1) :
    ThAt w (w5.setCell ⟨w.heap.size + 2, 3, none⟩ (.slice (some ⟨g, 0, none⟩) (acc.length + 1) cap)) v N h2 h3 recs rv globs gv funs fv T (.slice (some ⟨g, 0, none⟩) (acc.length + 1) cap) (acc ++ [x]) n (rowM N 3 i l).1.2 (rowM N 3 i l).2 := by
  have z4 := hm.1.size
  have lo := h.low
  have md := h.mid
  have bg := h.big
  have hrow : ∀ b, (Value.slice p acc.length c).ownBlock = some b → h3 < b ∧ b < wr.heap.size := fun b hb => by
    have := own_lt h.own hb
    omega
  have A5 := ((h.at_.call hm).alloc o).grown hgrow (fun b hb => by have := hrow b hb; omega)
  have k2 : ∀ b, w.heap.size + 2 < b → (Value.slice p acc.length c).ownBlock ≠ some b → b < w4.heap.size → (w5.setCell ⟨w.heap.size + 2, 3, none⟩ (.slice (some ⟨g, 0, none⟩) (acc.length + 1) cap)).heap[b]? = w4.heap[b]? := fun b h1 h2 h3 => by
    rw [Below.heap_setCell _ _ _ _ (by simp; omega), hgrow.block b (by simp; omega) (fun e => h2 e.symm), Below.heap_alloc _ _ _ h3]
  have k1 : ∀ b, w.heap.size + 2 < b → b < wr.heap.size → w4.heap[b]? = wr.heap[b]? := fun b h1 h2 => hm.1.block b h2 (by omega)
  have k12 : ∀ b, w.heap.size + 2 < b → b ≤ h3 → b < wr.heap.size → (w5.setCell ⟨w.heap.size + 2, 3, none⟩ (.slice (some ⟨g, 0, none⟩) (acc.length + 1) cap)).heap[b]? = wr.heap[b]? := fun b h1 h2' hl => (k2 b h1 (fun e => by have := hrow b e; omega) (by omega)).trans (k1 b h1 hl)
  have z6 : wr.heap.size ≤ w5.heap.size := by
    have := hgrow.size
    simp at this
    omega
  have z46 : w4.heap.size < w5.heap.size := by
    have := hgrow.size
    simp at this
    omega
  refine ⟨A5.set 3 _, h.ah.keep (fun b h1 h2' hl => k12 b h1 (by omega) hl), ⟨h.fns.1.keep (fun b hb hl => k12 b (by omega) (by omega) hl), fun y hy => Fn.ok.keep (h.fns.2 y hy) (fun b hb hl => k12 b (by omega) (by omega) hl)⟩, ?_,
    grow_ok (fun w F (x : Th) => x.ok w F) (fun h k => Th.ok.keep h k) (fun h k => Th.ok.mono h k) h.ok hx h.big z4 hrow (fun b h1 h2 => k1 b (by omega) h2) (fun b h1 => k2 b (by omega)) hat, fun y hy => ?_, ?_, ?_, by have := h.few; simp; omega, lo, md, ?_⟩
  · have := ownsRow_setCell_below hown (a := ⟨w.heap.size + 2, 3, none⟩) (by simp; omega) (.slice (some ⟨g, 0, none⟩) (acc.length + 1) cap)
    simpa using this
  · simp only [List.mem_append, List.mem_cons, List.not_mem_nil, or_false] at hy
    rcases hy with hy | rfl
    · exact h.tr y hy
    · exact hxt
  · intro t0 rest he
    cases acc with
    | nil =>
      simp only [List.nil_append, List.cons.injEq] at he
      obtain ⟨rfl, rfl⟩ := he
      refine ⟨fun s hs => grow_new (fun w F (x : St) => x.ok w F) (fun h k => St.ok.keep h k) (fun h k => St.ok.mono h k) (hxo s hs) h.big z4 hrow (fun b h1 => k2 b (by omega)) hat, by simp, fun b hb => ?_⟩
      have := hxb b hb
      refine ⟨by omega, by simp [World.setCell]; omega, fun e => ?_⟩
      simp [Value.ownBlock] at e
      subst e
      rcases hat with h' | h'
      · have := hrow _ h'
        omega
      · omega
    | cons t r =>
      simp only [List.cons_append, List.cons.injEq] at he
      obtain ⟨rfl, rfl⟩ := he
      obtain ⟨a1, a2, a3⟩ := h.fst t r rfl
      refine ⟨fun s hs => grow_old (fun w F (x : St) => x.ok w F) (fun h k => St.ok.keep h k) (fun h k => St.ok.mono h k) (a1 s hs) z4 (fun b h1 h2 => k1 b (by omega) h2) (fun b h1 => k2 b (by omega)) hat, fun y hy => ?_, fun b hb => ?_⟩
      · simp only [List.mem_append, List.mem_cons, List.not_mem_nil, or_false] at hy
        rcases hy with hy | rfl
        · exact grow_old (fun w F (x : Th) => x.ok w F) (fun h k => Th.ok.keep h k) (fun h k => Th.ok.mono h k) (a2 y hy) z4 (fun b h1 h2 => k1 b (by omega) h2) (fun b h1 => k2 b (by omega)) hat
        · exact grow_new (fun w F (x : Th) => x.ok w F) (fun h k => Th.ok.keep h k) (fun h k => Th.ok.mono h k) (Th.ok.mono hx (fun b hb hl => ⟨hb, fun e => by have := a3 b e; omega⟩)) h.big z4 hrow (fun b h1 => k2 b (by omega)) hat
      · have := a3 b hb
        refine ⟨by omega, by simp [World.setCell]; omega, fun e => ?_⟩
        simp [Value.ownBlock] at e
        subst e
        rcases hat with h' | h'
        · exact this.2.2 h'
        · omega
  · rw [h.rest, thsM]
    simp [hb]
  · simp [World.setCell]
    omega
end Go.Proofs.Ytfdfeiempeciiaa
