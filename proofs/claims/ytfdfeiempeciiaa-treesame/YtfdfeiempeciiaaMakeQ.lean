/- Make: what holds while functions and threads are made. -/
import Derived.Test.YtfdfeiempeciiaaMakeP
namespace Go.Proofs.Ytfdfeiempeciiaa
open Go.ChangeShapes Go.WideShapes Go.ChangeAt Go.RowKit
set_option linter.unusedVariables false

theorem grow_ok {α : Type} (ok : World → (Nat → Prop) → α → Prop)
    (kp : ∀ {w w' : World} {F : Nat → Prop} {x : α}, ok w F x → (∀ g, F g → g < w.heap.size → w'.heap[g]? = w.heap[g]?) → ok w' F x)
    (mo : ∀ {w : World} {F G : Nat → Prop} {x : α}, ok w F x → (∀ g, F g → g < w.heap.size → G g) → ok w G x)
    {wr w4 w6 : World} {lo : Nat} {vo : Value} {g len cap : Nat} {acc : List α} {x : α}
    (h : ∀ y ∈ acc, ok wr (fun b => lo < b ∧ vo.ownBlock ≠ some b) y) (hx : ok w4 (fun b => wr.heap.size ≤ b) x) (hlo : lo < wr.heap.size) (z4 : wr.heap.size ≤ w4.heap.size)
    (hrow : ∀ b, vo.ownBlock = some b → lo < b ∧ b < wr.heap.size) (k1 : ∀ b, lo < b → b < wr.heap.size → w4.heap[b]? = wr.heap[b]?)
    (k2 : ∀ b, lo < b → vo.ownBlock ≠ some b → b < w4.heap.size → w6.heap[b]? = w4.heap[b]?) (hat : vo.ownBlock = some g ∨ g = w4.heap.size + 1) :
    ∀ y ∈ acc ++ [x], ok w6 (fun b => lo < b ∧ (Value.slice (some ⟨g, 0, none⟩) len cap).ownBlock ≠ some b) y := by
  intro y hy
  simp only [List.mem_append, List.mem_cons, List.not_mem_nil, or_false] at hy
  rcases hy with hy | rfl
  · have h2 := mo (G := fun b => (lo < b ∧ vo.ownBlock ≠ some b) ∧ b < wr.heap.size) (h y hy) (fun b hb hl => ⟨hb, hl⟩)
    have h3 := kp (w' := w4) h2 (fun b hb hl => k1 b hb.1.1 hl)
    have h4 := kp (w' := w6) h3 (fun b hb hl => k2 b hb.1.1 hb.1.2 hl)
    exact mo h4 (fun b hb hl => ⟨hb.1.1, fun e => by
      simp [Value.ownBlock] at e
      subst e
      rcases hat with h | h
      · exact hb.1.2 h
      · omega⟩)
  · have h2 := mo (G := fun b => wr.heap.size ≤ b ∧ b < w4.heap.size) hx (fun b hb hl => ⟨hb, hl⟩)
    have h4 := kp (w' := w6) h2 (fun b hb hl => k2 b (by omega) (fun e => by have := hrow b e; omega) hl)
    exact mo h4 (fun b hb hl => ⟨by omega, fun e => by
      simp [Value.ownBlock] at e
      subst e
      rcases hat with h | h
      · have := hrow _ h
        omega
      · omega⟩)

theorem Fn.ok.keep {w w' : World} {F : Nat → Prop} {e : Fn} (h : e.ok w F) (hk : ∀ g, F g → g < w.heap.size → w'.heap[g]? = w.heap[g]?) : e.ok w' F := ⟨nmsOk.keep h.1 hk, h.2.keep hk⟩
theorem Fn.ok.mono {w : World} {F G : Nat → Prop} {e : Fn} (h : e.ok w F) (hs : ∀ g, F g → g < w.heap.size → G g) : e.ok w G := ⟨nmsOk.mono h.1 hs, h.2.mono hs⟩
theorem Th.ok.keep {w w' : World} {F : Nat → Prop} {e : Th} (h : e.ok w F) (hk : ∀ g, F g → g < w.heap.size → w'.heap[g]? = w.heap[g]?) : e.ok w' F := stsOk.keep h hk
theorem Th.ok.mono {w : World} {F G : Nat → Prop} {e : Th} (h : e.ok w F) (hs : ∀ g, F g → g < w.heap.size → G g) : e.ok w G := stsOk.mono h hs
theorem Fn.one'' {w : World} {F : Nat → Prop} {e : Fn} (h : e.ok w F) : ∀ v ∈ e.cells, v.oneCell' = true := by
  intro v hv
  simp only [Fn.cells, List.mem_cons, List.not_mem_nil, or_false] at hv
  rcases hv with rfl | rfl | rfl | rfl | rfl
  all_goals first | rfl | exact h.1.1.one | exact h.2.1.one
theorem Th.one'' {w : World} {F : Nat → Prop} {e : Th} (h : e.ok w F) : ∀ v ∈ e.cells, v.oneCell' = true := by
  intro v hv
  simp only [Th.cells, List.mem_cons, List.not_mem_nil, or_false] at hv
  rcases hv with rfl | rfl | rfl
  all_goals first | rfl | exact h.1.one

/-- What was made ahead lies still. -/
structure Ahead (w wr : World) (h2 : Nat) (recs : List Rc) (rv : Value) (globs : List Nm) (gv : Value) : Prop where
  recs : RowAt wr (fun g => w.heap.size + 2 < g ∧ g ≤ h2) 4 rv recs.length (recs.flatMap Rc.cells) ∧ ∀ k, k ∈ recs → k.ok wr (fun g => w.heap.size + 2 < g ∧ g ≤ h2)
  globs : nmsOk wr (fun g => w.heap.size + 2 < g ∧ g ≤ h2) gv globs
theorem Ahead.keep {w wr w' : World} {h2 : Nat} {recs : List Rc} {rv : Value} {globs : List Nm} {gv : Value} (h : Ahead w wr h2 recs rv globs gv) (k : ∀ g, w.heap.size + 2 < g → g ≤ h2 → g < wr.heap.size → w'.heap[g]? = wr.heap[g]?) : Ahead w w' h2 recs rv globs gv :=
  ⟨⟨h.recs.1.keep (fun g hg hl => k g hg.1 hg.2 hl), fun x hx => Rc.ok.keep (h.recs.2 x hx) (fun g hg hl => k g hg.1 hg.2 hl)⟩, h.globs.keep (fun g hg hl => k g hg.1 hg.2 hl)⟩

/-- While functions are made. -/
structure FnAt (w wr : World) (v : Value) (N : List Int) (h2 : Nat) (recs : List Rc) (rv : Value) (globs : List Nm) (gv : Value) (T : (List Fn × Nat) × Nat) (vo : Value) (acc : List Fn) (n i l : Nat) : Prop where
  at_ : PAt w wr v N l i [rv, gv, vo, .slice none 0 0]
  ah : Ahead w wr h2 recs rv globs gv
  own : wr.ownsRow (h2 + 1) 58 5 vo acc.length (acc.flatMap Fn.cells)
  ok : ∀ x ∈ acc, x.ok wr (fun g => h2 < g ∧ vo.ownBlock ≠ some g)
  rest : T = ((acc.map Fn.bare ++ (funsM N n i l).1.1, (funsM N n i l).1.2), (funsM N n i l).2)
  few : n + acc.length ≤ 100
  low : w.heap.size + 2 ≤ h2
  big : h2 < wr.heap.size

theorem FnAt.next {w wr w4 w5 : World} {v : Value} {N : List Int} {h2 : Nat} {recs : List Rc} {rv : Value} {globs : List Nm} {gv : Value} {T : (List Fn × Nat) × Nat} {p : Option Addr} {acc : List Fn} {c n i l : Nat} {x : Fn} {o : Obj} {g cap : Nat}
    (h : FnAt w wr v N h2 recs rv globs gv T (.slice p acc.length c) acc (n + 1) i l) (hm : Made wr (w.heap.size + 1) v N (rowM N 2 (namesM N 3 (nx N i)).2 l).2 (rowM N 2 (namesM N 3 (nx N i)).2 l).1.2 w4) (hx : x.ok w4 (fun b => wr.heap.size ≤ b))
    (hb : x.bare = ⟨nmV (pk N 8 i), (namesM N 3 (nx N i)).1, .slice none 0 0, (rowM N 2 (namesM N 3 (nx N i)).2 l).1.1, .slice none 0 0, 0, 0⟩)
    (hown : w5.ownsRow (h2 + 1) 58 5 (.slice (some ⟨g, 0, none⟩) (acc.length + 1) cap) (acc.length + 1) (acc.flatMap Fn.cells ++ x.cells)) (hgrow : (w4.alloc o).grownBy w5 (Value.slice p acc.length c).ownBlock)
    (hat : (Value.slice p acc.length c).ownBlock = some g ∨ g = w4.heap.size + 1) :
    FnAt w (w5.setCell ⟨w.heap.size + 2, 2, none⟩ (.slice (some ⟨g, 0, none⟩) (acc.length + 1) cap)) v N h2 recs rv globs gv T (.slice (some ⟨g, 0, none⟩) (acc.length + 1) cap) (acc ++ [x]) n (rowM N 2 (namesM N 3 (nx N i)).2 l).1.2 (rowM N 2 (namesM N 3 (nx N i)).2 l).2 := by
  have z4 := hm.1.size
  have lo := h.low
  have bg := h.big
  have hrow : ∀ b, (Value.slice p acc.length c).ownBlock = some b → h2 < b ∧ b < wr.heap.size := fun b hb => by
    have := own_lt h.own hb
    omega
  have A5 := ((h.at_.call hm).alloc o).grown hgrow (fun b hb => by have := hrow b hb; omega)
  have k2 : ∀ b, w.heap.size + 2 < b → (Value.slice p acc.length c).ownBlock ≠ some b → b < w4.heap.size → (w5.setCell ⟨w.heap.size + 2, 2, none⟩ (.slice (some ⟨g, 0, none⟩) (acc.length + 1) cap)).heap[b]? = w4.heap[b]? := fun b h1 h2 h3 => by
    rw [Below.heap_setCell _ _ _ _ (by simp; omega), hgrow.block b (by simp; omega) (fun e => h2 e.symm), Below.heap_alloc _ _ _ h3]
  have k1 : ∀ b, w.heap.size + 2 < b → b < wr.heap.size → w4.heap[b]? = wr.heap[b]? := fun b h1 h2 => hm.1.block b h2 (by omega)
  refine ⟨A5.set 2 _, h.ah.keep (fun b h1 h2' hl => (k2 b h1 (fun e => by have := hrow b e; omega) (by omega)).trans (k1 b h1 hl)), ?_,
    grow_ok (fun w F (x : Fn) => x.ok w F) (fun h k => Fn.ok.keep h k) (fun h k => Fn.ok.mono h k) h.ok hx h.big z4 hrow (fun b h1 h2 => k1 b (by omega) h2) (fun b h1 => k2 b (by omega)) hat, ?_, by have := h.few; simp; omega, lo, ?_⟩
  · have := ownsRow_setCell_below hown (a := ⟨w.heap.size + 2, 2, none⟩) (by simp; omega) (.slice (some ⟨g, 0, none⟩) (acc.length + 1) cap)
    simpa using this
  · rw [h.rest, funsM]
    simp [hb]
  · have := hgrow.size
    simp [World.setCell] at this ⊢
    omega
end Go.Proofs.Ytfdfeiempeciiaa
