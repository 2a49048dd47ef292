/- What Make makes, plainly; and what it works with. -/
import Derived.Test.YtfdfeiempeciiaaStmt
import Derived.Test.YtfdfeiempeciiaaStep
namespace Go.Proofs.Ytfdfeiempeciiaa
open Go.ChangeShapes Go.WideShapes Go.ChangeAt Go.RowKit
set_option linter.unusedVariables false

def recsM (N : List Int) : Nat → Nat → List Rc × Nat
  | 0, i => ([], i)
  | k + 1, i => (⟨nmV (pk N 8 i), (namesM N 3 (nx N i)).1, .slice none 0 0, 0, 0⟩ :: (recsM N k (namesM N 3 (nx N i)).2).1, (recsM N k (namesM N 3 (nx N i)).2).2)
def funsM (N : List Int) : Nat → Nat → Nat → (List Fn × Nat) × Nat
  | 0, i, l => (([], i), l)
  | k + 1, i, l =>
    ((⟨nmV (pk N 8 i), (namesM N 3 (nx N i)).1, .slice none 0 0, (rowM N 2 (namesM N 3 (nx N i)).2 l).1.1, .slice none 0 0, 0, 0⟩ :: (funsM N k (rowM N 2 (namesM N 3 (nx N i)).2 l).1.2 (rowM N 2 (namesM N 3 (nx N i)).2 l).2).1.1,
      (funsM N k (rowM N 2 (namesM N 3 (nx N i)).2 l).1.2 (rowM N 2 (namesM N 3 (nx N i)).2 l).2).1.2), (funsM N k (rowM N 2 (namesM N 3 (nx N i)).2 l).1.2 (rowM N 2 (namesM N 3 (nx N i)).2 l).2).2)
def thsM (N : List Int) : Nat → Nat → Nat → (List Th × Nat) × Nat
  | 0, i, l => (([], i), l)
  | k + 1, i, l => ((⟨(rowM N 3 i l).1.1, .slice none 0 0, 0, 0⟩ :: (thsM N k (rowM N 3 i l).1.2 (rowM N 3 i l).2).1.1, (thsM N k (rowM N 3 i l).1.2 (rowM N 3 i l).2).1.2), (thsM N k (rowM N 3 i l).1.2 (rowM N 3 i l).2).2)

def recsN (N : List Int) : List Rc × Nat := recsM N (pk N 3 0) (nx N 0)
def globsN (N : List Int) : List Nm × Nat := namesM N 4 (recsN N).2
def funsN (N : List Int) : (List Fn × Nat) × Nat := funsM N (pk N 3 (globsN N).2) (nx N (globsN N).2) 60
def thsN (N : List Int) : (List Th × Nat) × Nat := thsM N (pk N 4 (funsN N).1.2) (nx N (funsN N).1.2) (funsN N).2
def makeM (N : List Int) : Pg := ⟨(recsN N).1, .slice none 0 0, (globsN N).1, .slice none 0 0, (funsN N).1.1, .slice none 0 0, (thsN N).1.1, .slice none 0 0⟩

/-- While Make goes on: the result's block, the maker's, the program's. -/
structure PAt (w wr : World) (v : Value) (N : List Int) (l i : Nat) (cs : List Value) : Prop where
  mkr : Mk wr (w.heap.size + 1) v N i l
  bel : Below w.heap.size w wr
  res : VarAt wr w.heap.size [.slice none 0 0, .slice none 0 0, .slice none 0 0, .slice none 0 0] 29
  var : VarAt wr (w.heap.size + 2) cs 29

theorem Touch.low {T : Nat → Prop} {w wr w2 : World} (h : Below w.heap.size w wr) (k : Touch T wr w2) (hT : ∀ g, T g → w.heap.size ≤ g) : Below w.heap.size w w2 :=
  h.trans (k.below (fun g hg => ⟨Nat.lt_of_lt_of_le hg h.size, fun ht => by have := hT g ht; omega⟩))
theorem PAt.call {w wr w2 : World} {v : Value} {N : List Int} {l i l' i' : Nat} {cs : List Value} (h : PAt w wr v N l i cs) (k : Made wr (w.heap.size + 1) v N l' i' w2) : PAt w w2 v N l' i' cs :=
  ⟨k.2, Touch.low h.bel k.1 (fun g hg => by omega), h.res.touch k.1 (by omega), h.var.touch k.1 (by omega)⟩
theorem PAt.drew {w wr : World} {v : Value} {N : List Int} {l i : Nat} {cs : List Value} (h : PAt w wr v N l i cs) : PAt w wr.drew v N l i cs := ⟨h.mkr.drew, h.bel.drew, h.res, h.var⟩
theorem PAt.alloc {w wr : World} {v : Value} {N : List Int} {l i : Nat} {cs : List Value} (h : PAt w wr v N l i cs) (o : Obj) : PAt w (wr.alloc o) v N l i cs :=
  ⟨h.mkr.alloc o, h.bel.alloc h.bel.size o, h.res.kept ((Below.refl _ _).alloc (Nat.le_refl _) _), h.var.kept ((Below.refl _ _).alloc (Nat.le_refl _) _)⟩
theorem PAt.grown {w wr w2 : World} {v : Value} {N : List Int} {l i : Nat} {cs : List Value} {row : Option Nat} (h : PAt w wr v N l i cs) (k : wr.grownBy w2 row) (hr : ∀ g, row = some g → w.heap.size + 2 < g) : PAt w w2 v N l i cs :=
  ⟨h.mkr.grown k (fun g hg => by have := hr g hg; omega), h.bel.grown k h.bel.size (fun g hg => by have := hr g hg; omega), (k.block _ h.res.lt (fun e => by have := hr _ e.symm; omega)).trans h.res, (k.block _ h.var.lt (fun e => by have := hr _ e.symm; omega)).trans h.var⟩
theorem PAt.set {w wr : World} {v : Value} {N : List Int} {l i : Nat} {cs : List Value} (h : PAt w wr v N l i cs) (o : Nat) (u : Value) : PAt w (wr.setCell ⟨w.heap.size + 2, o, none⟩ u) v N l i (cs.set o u) :=
  ⟨h.mkr.touch (Touch.setCell (T := fun g => g = w.heap.size + 2) _ _ _ rfl) (fun b hb => by omega), Touch.low h.bel (Touch.setCell (T := fun g => g = w.heap.size + 2) _ _ _ rfl) (fun g hg => by omega), h.res.touch (Touch.setCell (T := fun g => g = w.heap.size + 2) _ _ _ rfl) (by omega), h.var.set o u⟩
/-- What lies above stays. -/
theorem PAt.up {w wr w2 : World} {v : Value} {N : List Int} {l i l' i' : Nat} {cs : List Value} (h : PAt w wr v N l i cs) (k : Made wr (w.heap.size + 1) v N l' i' w2) : ∀ g, w.heap.size + 2 < g → g < wr.heap.size → w2.heap[g]? = wr.heap[g]? := fun g h1 h2 => k.1.block g h2 (by omega)
theorem made_undrew {w w' : World} {M : Nat} {v : Value} {N : List Int} {l i : Nat} (h : Made w.drew M v N l i w') : Made w M v N l i w' := ⟨⟨h.1.os, h.1.tape, h.1.output, h.1.size, h.1.block⟩, h.2⟩

/-- While records are made. -/
structure RcAt (w wr : World) (v : Value) (N : List Int) (T : List Rc × Nat) (vo : Value) (acc : List Rc) (n i : Nat) : Prop where
  at_ : PAt w wr v N 60 i [vo, .slice none 0 0, .slice none 0 0, .slice none 0 0]
  own : wr.ownsRow (w.heap.size + 3) 76 4 vo acc.length (acc.flatMap Rc.cells)
  ok : ∀ x ∈ acc, x.ok wr (fun g => w.heap.size + 2 < g ∧ vo.ownBlock ≠ some g)
  rest : T = (acc.map Rc.bare ++ (recsM N n i).1, (recsM N n i).2)
  few : n + acc.length ≤ 100

theorem Rc.ok.keep {w w' : World} {F : Nat → Prop} {e : Rc} (h : e.ok w F) (hk : ∀ g, F g → g < w.heap.size → w'.heap[g]? = w.heap[g]?) : e.ok w' F := nmsOk.keep h hk
theorem Rc.ok.mono {w : World} {F G : Nat → Prop} {e : Rc} (h : e.ok w F) (hs : ∀ g, F g → g < w.heap.size → G g) : e.ok w G := nmsOk.mono h hs
theorem Rc.one'' {w : World} {F : Nat → Prop} {e : Rc} (h : e.ok w F) : ∀ v ∈ e.cells, v.oneCell' = true := by
  intro v hv
  simp only [Rc.cells, List.mem_cons, List.not_mem_nil, or_false] at hv
  rcases hv with rfl | rfl | rfl | rfl
  all_goals first | rfl | exact h.1.one

/-- One record more. -/
theorem RcAt.next {w wr w4 w5 : World} {v : Value} {N : List Int} {T : List Rc × Nat} {p : Option Addr} {acc : List Rc} {c n i : Nat} {x : Rc} {o : Obj} {g cap : Nat}
    (h : RcAt w wr v N T (.slice p acc.length c) acc (n + 1) i) (hm : Made wr (w.heap.size + 1) v N 60 (namesM N 3 (nx N i)).2 w4) (hx : x.ok w4 (fun b => wr.heap.size ≤ b)) (hb : x.bare = ⟨nmV (pk N 8 i), (namesM N 3 (nx N i)).1, .slice none 0 0, 0, 0⟩)
    (hown : w5.ownsRow (w.heap.size + 3) 76 4 (.slice (some ⟨g, 0, none⟩) (acc.length + 1) cap) (acc.length + 1) (acc.flatMap Rc.cells ++ x.cells)) (hgrow : (w4.alloc o).grownBy w5 (Value.slice p acc.length c).ownBlock)
    (hat : (Value.slice p acc.length c).ownBlock = some g ∨ g = w4.heap.size + 1) :
    RcAt w (w5.setCell ⟨w.heap.size + 2, 0, none⟩ (.slice (some ⟨g, 0, none⟩) (acc.length + 1) cap)) v N T (.slice (some ⟨g, 0, none⟩) (acc.length + 1) cap) (acc ++ [x]) n (namesM N 3 (nx N i)).2 := by
  have zS := h.at_.var.lt
  have z4 := hm.1.size
  have hrow : ∀ b, (Value.slice p acc.length c).ownBlock = some b → w.heap.size + 2 < b ∧ b < wr.heap.size := fun b hb => by
    have := own_lt h.own hb
    omega
  have A5 := ((h.at_.call hm).alloc o).grown hgrow (fun b hb => (hrow b hb).1)
  have keep : ∀ b, w.heap.size + 2 < b → (Value.slice p acc.length c).ownBlock ≠ some b → b < w4.heap.size → (w5.setCell ⟨w.heap.size + 2, 0, none⟩ (.slice (some ⟨g, 0, none⟩) (acc.length + 1) cap)).heap[b]? = w4.heap[b]? := fun b h1 h2 h3 => by
    rw [Below.heap_setCell _ _ _ _ (by simp; omega), hgrow.block b (by simp; omega) (fun e => h2 e.symm), Below.heap_alloc _ _ _ h3]
  refine ⟨A5.set 0 _, ?_, fun y hy => ?_, ?_, by have := h.few; simp; omega⟩
  · have := ownsRow_setCell_below hown (a := ⟨w.heap.size + 2, 0, none⟩) (by simp) (.slice (some ⟨g, 0, none⟩) (acc.length + 1) cap)
    simpa using this
  · simp only [List.mem_append, List.mem_cons, List.not_mem_nil, or_false] at hy
    rcases hy with hy | rfl
    · have h2 := Rc.ok.mono (G := fun b => (w.heap.size + 2 < b ∧ (Value.slice p acc.length c).ownBlock ≠ some b) ∧ b < wr.heap.size) (h.ok y hy) (fun b hb hl => ⟨hb, hl⟩)
      have h3 := Rc.ok.keep (w' := w4) h2 (fun b hb hl => hm.1.block b hl (by omega))
      have h4 := Rc.ok.keep (w' := w5.setCell ⟨w.heap.size + 2, 0, none⟩ (.slice (some ⟨g, 0, none⟩) (acc.length + 1) cap)) h3 (fun b hb hl => keep b hb.1.1 hb.1.2 hl)
      exact Rc.ok.mono h4 (fun b hb hl => ⟨hb.1.1, fun e => by
        simp [Value.ownBlock] at e
        subst e
        rcases hat with h | h
        · exact hb.1.2 h
        · omega⟩)
    · have h2 := Rc.ok.mono (G := fun b => wr.heap.size ≤ b ∧ b < w4.heap.size) hx (fun b hb hl => ⟨hb, hl⟩)
      have h4 := Rc.ok.keep (w' := w5.setCell ⟨w.heap.size + 2, 0, none⟩ (.slice (some ⟨g, 0, none⟩) (acc.length + 1) cap)) h2 (fun b hb hl => keep b (by omega) (fun e => by have := hrow b e; omega) hl)
      exact Rc.ok.mono h4 (fun b hb hl => ⟨by omega, fun e => by
        simp [Value.ownBlock] at e
        subst e
        rcases hat with h | h
        · have := hrow _ h
          omega
        · omega⟩)
  · rw [h.rest, recsM]
    simp [hb]
end Go.Proofs.Ytfdfeiempeciiaa

/- Make: what holds while functions and threads are made. -/
namespace Go.Proofs.Ytfdfeiempeciiaa
open Go.ChangeShapes Go.WideShapes Go.ChangeAt Go.RowKit
set_option linter.unusedVariables false

theorem grow_ok {α : Type} (ok : World → (Nat → Prop) → α → Prop)
    (kp : ∀ {w w' : World} {F : Nat → Prop} {x : α}, ok w F x → (∀ g, F g → g < w.heap.size → w'.heap[g]? = w.heap[g]?) → ok w' F x)
    (mo : ∀ {w : World} {F G : Nat → Prop} {x : α}, ok w F x → (∀ g, F g → g < w.heap.size → G g) → ok w G x)
    {wr w4 w6 : World} {lo : Nat} {vo : Value} {g len cap : Nat} {acc : List α} {x : α}
    (h : ∀ y ∈ acc, ok wr (fun b => lo < b ∧ vo.ownBlock ≠ some b) y) (hx : ok w4 (fun b => wr.heap.size ≤ b) x) (hlo : lo < wr.heap.size) (z4 : wr.heap.size ≤ w4.heap.size)
    (hrow : ∀ b, vo.ownBlock = some b → lo < b ∧ b < wr.heap.size) (k1 : ∀ b, lo < b → b < wr.heap.size → w4.heap[b]? = wr.heap[b]?)
    (k2 : ∀ b, lo < b → vo.ownBlock ≠ some b → b < w4.heap.size → w6.heap[b]? = w4.heap[b]?) (hat : vo.ownBlock = some g ∨ g = w4.heap.size + 1) :
    ∀ y ∈ acc ++ [x], ok w6 (fun b => lo < b ∧ (Value.slice (some ⟨g, 0, none⟩) len cap).ownBlock ≠ some b) y := by
  intro y hy
  simp only [List.mem_append, List.mem_cons, List.not_mem_nil, or_false] at hy
  rcases hy with hy | rfl
  · have h2 := mo (G := fun b => (lo < b ∧ vo.ownBlock ≠ some b) ∧ b < wr.heap.size) (h y hy) (fun b hb hl => ⟨hb, hl⟩)
    have h3 := kp (w' := w4) h2 (fun b hb hl => k1 b hb.1.1 hl)
    have h4 := kp (w' := w6) h3 (fun b hb hl => k2 b hb.1.1 hb.1.2 hl)
    exact mo h4 (fun b hb hl => ⟨hb.1.1, fun e => by
      simp [Value.ownBlock] at e
      subst e
      rcases hat with h | h
      · exact hb.1.2 h
      · omega⟩)
  · have h2 := mo (G := fun b => wr.heap.size ≤ b ∧ b < w4.heap.size) hx (fun b hb hl => ⟨hb, hl⟩)
    have h4 := kp (w' := w6) h2 (fun b hb hl => k2 b (by omega) (fun e => by have := hrow b e; omega) hl)
    exact mo h4 (fun b hb hl => ⟨by omega, fun e => by
      simp [Value.ownBlock] at e
      subst e
      rcases hat with h | h
      · have := hrow _ h
        omega
      · omega⟩)

theorem Fn.ok.keep {w w' : World} {F : Nat → Prop} {e : Fn} (h : e.ok w F) (hk : ∀ g, F g → g < w.heap.size → w'.heap[g]? = w.heap[g]?) : e.ok w' F := ⟨nmsOk.keep h.1 hk, h.2.keep hk⟩
theorem Fn.ok.mono {w : World} {F G : Nat → Prop} {e : Fn} (h : e.ok w F) (hs : ∀ g, F g → g < w.heap.size → G g) : e.ok w G := ⟨nmsOk.mono h.1 hs, h.2.mono hs⟩
theorem Th.ok.keep {w w' : World} {F : Nat → Prop} {e : Th} (h : e.ok w F) (hk : ∀ g, F g → g < w.heap.size → w'.heap[g]? = w.heap[g]?) : e.ok w' F := stsOk.keep h hk
theorem Th.ok.mono {w : World} {F G : Nat → Prop} {e : Th} (h : e.ok w F) (hs : ∀ g, F g → g < w.heap.size → G g) : e.ok w G := stsOk.mono h hs
theorem Fn.one'' {w : World} {F : Nat → Prop} {e : Fn} (h : e.ok w F) : ∀ v ∈ e.cells, v.oneCell' = true := by
  intro v hv
  simp only [Fn.cells, List.mem_cons, List.not_mem_nil, or_false] at hv
  rcases hv with rfl | rfl | rfl | rfl | rfl
  all_goals first | rfl | exact h.1.1.one | exact h.2.1.one
theorem Th.one'' {w : World} {F : Nat → Prop} {e : Th} (h : e.ok w F) : ∀ v ∈ e.cells, v.oneCell' = true := by
  intro v hv
  simp only [Th.cells, List.mem_cons, List.not_mem_nil, or_false] at hv
  rcases hv with rfl | rfl | rfl
  all_goals first | rfl | exact h.1.one

/-- What was made ahead lies still. -/
structure Ahead (w wr : World) (h2 : Nat) (recs : List Rc) (rv : Value) (globs : List Nm) (gv : Value) : Prop where
  recs : RowAt wr (fun g => w.heap.size + 2 < g ∧ g ≤ h2) 4 rv recs.length (recs.flatMap Rc.cells) ∧ ∀ k, k ∈ recs → k.ok wr (fun g => w.heap.size + 2 < g ∧ g ≤ h2)
  globs : nmsOk wr (fun g => w.heap.size + 2 < g ∧ g ≤ h2) gv globs
theorem Ahead.keep {w wr w' : World} {h2 : Nat} {recs : List Rc} {rv : Value} {globs : List Nm} {gv : Value} (h : Ahead w wr h2 recs rv globs gv) (k : ∀ g, w.heap.size + 2 < g → g ≤ h2 → g < wr.heap.size → w'.heap[g]? = wr.heap[g]?) : Ahead w w' h2 recs rv globs gv :=
  ⟨⟨h.recs.1.keep (fun g hg hl => k g hg.1 hg.2 hl), fun x hx => Rc.ok.keep (h.recs.2 x hx) (fun g hg hl => k g hg.1 hg.2 hl)⟩, h.globs.keep (fun g hg hl => k g hg.1 hg.2 hl)⟩

/-- While functions are made. -/
structure FnAt (w wr : World) (v : Value) (N : List Int) (h2 : Nat) (recs : List Rc) (rv : Value) (globs : List Nm) (gv : Value) (T : (List Fn × Nat) × Nat) (vo : Value) (acc : List Fn) (n i l : Nat) : Prop where
  at_ : PAt w wr v N l i [rv, gv, vo, .slice none 0 0]
  ah : Ahead w wr h2 recs rv globs gv
  own : wr.ownsRow (h2 + 1) 58 5 vo acc.length (acc.flatMap Fn.cells)
  ok : ∀ x ∈ acc, x.ok wr (fun g => h2 < g ∧ vo.ownBlock ≠ some g)
  rest : T = ((acc.map Fn.bare ++ (funsM N n i l).1.1, (funsM N n i l).1.2), (funsM N n i l).2)
  few : n + acc.length ≤ 100
  low : w.heap.size + 2 ≤ h2
  big : h2 < wr.heap.size

theorem FnAt.next {w wr w4 w5 : World} {v : Value} {N : List Int} {h2 : Nat} {recs : List Rc} {rv : Value} {globs : List Nm} {gv : Value} {T : (List Fn × Nat) × Nat} {p : Option Addr} {acc : List Fn} {c n i l : Nat} {x : Fn} {o : Obj} {g cap : Nat}
    (h : FnAt w wr v N h2 recs rv globs gv T (.slice p acc.length c) acc (n + 1) i l) (hm : Made wr (w.heap.size + 1) v N (rowM N 2 (namesM N 3 (nx N i)).2 l).2 (rowM N 2 (namesM N 3 (nx N i)).2 l).1.2 w4) (hx : x.ok w4 (fun b => wr.heap.size ≤ b))
    (hb : x.bare = ⟨nmV (pk N 8 i), (namesM N 3 (nx N i)).1, .slice none 0 0, (rowM N 2 (namesM N 3 (nx N i)).2 l).1.1, .slice none 0 0, 0, 0⟩)
    (hown : w5.ownsRow (h2 + 1) 58 5 (.slice (some ⟨g, 0, none⟩) (acc.length + 1) cap) (acc.length + 1) (acc.flatMap Fn.cells ++ x.cells)) (hgrow : (w4.alloc o).grownBy w5 (Value.slice p acc.length c).ownBlock)
    (hat : (Value.slice p acc.length c).ownBlock = some g ∨ g = w4.heap.size + 1) :
    FnAt w (w5.setCell ⟨w.heap.size + 2, 2, none⟩ (.slice (some ⟨g, 0, none⟩) (acc.length + 1) cap)) v N h2 recs rv globs gv T (.slice (some ⟨g, 0, none⟩) (acc.length + 1) cap) (acc ++ [x]) n (rowM N 2 (namesM N 3 (nx N i)).2 l).1.2 (rowM N 2 (namesM N 3 (nx N i)).2 l).2 := by
  have z4 := hm.1.size
  have lo := h.low
  have bg := h.big
  have hrow : ∀ b, (Value.slice p acc.length c).ownBlock = some b → h2 < b ∧ b < wr.heap.size := fun b hb => by
    have := own_lt h.own hb
    omega
  have A5 := ((h.at_.call hm).alloc o).grown hgrow (fun b hb => by have := hrow b hb; omega)
  have k2 : ∀ b, w.heap.size + 2 < b → (Value.slice p acc.length c).ownBlock ≠ some b → b < w4.heap.size → (w5.setCell ⟨w.heap.size + 2, 2, none⟩ (.slice (some ⟨g, 0, none⟩) (acc.length + 1) cap)).heap[b]? = w4.heap[b]? := fun b h1 h2 h3 => by
    rw [Below.heap_setCell _ _ _ _ (by simp; omega), hgrow.block b (by simp; omega) (fun e => h2 e.symm), Below.heap_alloc _ _ _ h3]
  have k1 : ∀ b, w.heap.size + 2 < b → b < wr.heap.size → w4.heap[b]? = wr.heap[b]? := fun b h1 h2 => hm.1.block b h2 (by omega)
  refine ⟨A5.set 2 _, h.ah.keep (fun b h1 h2' hl => (k2 b h1 (fun e => by have := hrow b e; omega) (by omega)).trans (k1 b h1 hl)), ?_,
    grow_ok (fun w F (x : Fn) => x.ok w F) (fun h k => Fn.ok.keep h k) (fun h k => Fn.ok.mono h k) h.ok hx h.big z4 hrow (fun b h1 h2 => k1 b (by omega) h2) (fun b h1 => k2 b (by omega)) hat, ?_, by have := h.few; simp; omega, lo, ?_⟩
  · have := ownsRow_setCell_below hown (a := ⟨w.heap.size + 2, 2, none⟩) (by simp; omega) (.slice (some ⟨g, 0, none⟩) (acc.length + 1) cap)
    simpa using this
  · rw [h.rest, funsM]
    simp [hb]
  · have := hgrow.size
    simp [World.setCell] at this ⊢
    omega
end Go.Proofs.Ytfdfeiempeciiaa

/- Make: what holds while threads are made. -/
namespace Go.Proofs.Ytfdfeiempeciiaa
open Go.ChangeShapes Go.WideShapes Go.ChangeAt Go.RowKit
set_option linter.unusedVariables false

theorem grow_old {α : Type} (ok : World → (Nat → Prop) → α → Prop)
    (kp : ∀ {w w' : World} {F : Nat → Prop} {x : α}, ok w F x → (∀ g, F g → g < w.heap.size → w'.heap[g]? = w.heap[g]?) → ok w' F x)
    (mo : ∀ {w : World} {F G : Nat → Prop} {x : α}, ok w F x → (∀ g, F g → g < w.heap.size → G g) → ok w G x)
    {wr w4 w6 : World} {lo : Nat} {B : Option Nat} {vo : Value} {g len cap : Nat} {y : α}
    (h : ok wr (fun b => lo < b ∧ B ≠ some b ∧ vo.ownBlock ≠ some b) y) (z4 : wr.heap.size ≤ w4.heap.size)
    (k1 : ∀ b, lo < b → b < wr.heap.size → w4.heap[b]? = wr.heap[b]?)
    (k2 : ∀ b, lo < b → vo.ownBlock ≠ some b → b < w4.heap.size → w6.heap[b]? = w4.heap[b]?) (hat : vo.ownBlock = some g ∨ g = w4.heap.size + 1) :
    ok w6 (fun b => lo < b ∧ B ≠ some b ∧ (Value.slice (some ⟨g, 0, none⟩) len cap).ownBlock ≠ some b) y := by
  have h2 := mo (G := fun b => (lo < b ∧ B ≠ some b ∧ vo.ownBlock ≠ some b) ∧ b < wr.heap.size) h (fun b hb hl => ⟨hb, hl⟩)
  have h3 := kp (w' := w4) h2 (fun b hb hl => k1 b hb.1.1 hb.2)
  have h4 := kp (w' := w6) h3 (fun b hb hl => k2 b hb.1.1 hb.1.2.2 hl)
  exact mo h4 (fun b hb hl => ⟨hb.1.1, hb.1.2.1, fun e => by
    simp [Value.ownBlock] at e
    subst e
    rcases hat with h | h
    · exact hb.1.2.2 h
    · omega⟩)
theorem grow_new {α : Type} (ok : World → (Nat → Prop) → α → Prop)
    (kp : ∀ {w w' : World} {F : Nat → Prop} {x : α}, ok w F x → (∀ g, F g → g < w.heap.size → w'.heap[g]? = w.heap[g]?) → ok w' F x)
    (mo : ∀ {w : World} {F G : Nat → Prop} {x : α}, ok w F x → (∀ g, F g → g < w.heap.size → G g) → ok w G x)
    {wr w4 w6 : World} {lo : Nat} {B : Option Nat} {vo : Value} {g len cap : Nat} {x : α}
    (hx : ok w4 (fun b => wr.heap.size ≤ b ∧ B ≠ some b) x) (hlo : lo < wr.heap.size) (z4 : wr.heap.size ≤ w4.heap.size)
    (hrow : ∀ b, vo.ownBlock = some b → lo < b ∧ b < wr.heap.size)
    (k2 : ∀ b, lo < b → vo.ownBlock ≠ some b → b < w4.heap.size → w6.heap[b]? = w4.heap[b]?) (hat : vo.ownBlock = some g ∨ g = w4.heap.size + 1) :
    ok w6 (fun b => lo < b ∧ B ≠ some b ∧ (Value.slice (some ⟨g, 0, none⟩) len cap).ownBlock ≠ some b) x := by
  have h2 := mo (G := fun b => (wr.heap.size ≤ b ∧ B ≠ some b) ∧ b < w4.heap.size) hx (fun b hb hl => ⟨hb, hl⟩)
  have h4 := kp (w' := w6) h2 (fun b hb hl => k2 b (by omega) (fun e => by have := hrow b e; omega) hl)
  exact mo h4 (fun b hb hl => ⟨by omega, hb.1.2, fun e => by
    simp [Value.ownBlock] at e
    subst e
    rcases hat with h | h
    · have := hrow _ h
      omega
    · omega⟩)

/-- The first thread's row is its own. -/
def Apart (wr : World) (h3 : Nat) (vo : Value) (acc : List Th) : Prop := ∀ t0 rest, acc = t0 :: rest →
  (∀ s ∈ t0.body, s.ok wr (fun g => h3 < g ∧ t0.bv.ownBlock ≠ some g ∧ vo.ownBlock ≠ some g)) ∧ (∀ t ∈ rest, t.ok wr (fun g => h3 < g ∧ t0.bv.ownBlock ≠ some g ∧ vo.ownBlock ≠ some g)) ∧
  (∀ g, t0.bv.ownBlock = some g → h3 < g ∧ g < wr.heap.size ∧ vo.ownBlock ≠ some g)

/-- While threads are made. -/
structure ThAt (w wr : World) (v : Value) (N : List Int) (h2 h3 : Nat) (recs : List Rc) (rv : Value) (globs : List Nm) (gv : Value) (funs : List Fn) (fv : Value) (T : (List Th × Nat) × Nat) (vo : Value) (acc : List Th) (n i l : Nat) : Prop where
  at_ : PAt w wr v N l i [rv, gv, fv, vo]
  ah : Ahead w wr h2 recs rv globs gv
  fns : RowAt wr (fun g => h2 < g ∧ g ≤ h3) 5 fv funs.length (funs.flatMap Fn.cells) ∧ ∀ k, k ∈ funs → k.ok wr (fun g => h2 < g ∧ g ≤ h3)
  own : wr.ownsRow (h3 + 1) 37 3 vo acc.length (acc.flatMap Th.cells)
  ok : ∀ x ∈ acc, x.ok wr (fun g => h3 < g ∧ vo.ownBlock ≠ some g)
  tr : ∀ x ∈ acc, ∀ s ∈ x.body, s.right.e.tr.toList ≠ [122]
  fst : Apart wr h3 vo acc
  rest : T = ((acc.map Th.bare ++ (thsM N n i l).1.1, (thsM N n i l).1.2), (thsM N n i l).2)
  few : n + acc.length ≤ 100
  low : w.heap.size + 2 ≤ h2
  mid : h2 ≤ h3
  big : h3 < wr.heap.size

theorem ThAt.next {w wr w4 w5 : World} {v : Value} {N : List Int} {h2 h3 : Nat} {recs : List Rc} {rv : Value} {globs : List Nm} {gv : Value} {funs : List Fn} {fv : Value} {T : (List Th × Nat) × Nat} {p : Option Addr} {acc : List Th} {c n i l : Nat} {x : Th} {o : Obj} {g cap : Nat}
    (h : ThAt w wr v N h2 h3 recs rv globs gv funs fv T (.slice p acc.length c) acc (n + 1) i l) (hm : Made wr (w.heap.size + 1) v N (rowM N 3 i l).2 (rowM N 3 i l).1.2 w4)
    (hx : x.ok w4 (fun b => wr.heap.size ≤ b)) (hxo : ∀ s ∈ x.body, s.ok w4 (fun b => wr.heap.size ≤ b ∧ x.bv.ownBlock ≠ some b)) (hxb : ∀ b, x.bv.ownBlock = some b → wr.heap.size ≤ b ∧ b < w4.heap.size) (hxt : ∀ s ∈ x.body, s.right.e.tr.toList ≠ [122])
    (hb : x.bare = ⟨(rowM N 3 i l).1.1, .slice none 0 0, 0, 0⟩)
    (hown : w5.ownsRow (h3 + 1) 37 3 (.slice (some ⟨g, 0, none⟩) (acc.length + 1) cap) (acc.length + 1) (acc.flatMap Th.cells ++ x.cells)) (hgrow : (w4.alloc o).grownBy w5 (Value.slice p acc.length c).ownBlock)
    (hat : (Value.slice p acc.length c).ownBlock = some g ∨ g = w4.heap.size + 1) :
    ThAt w (w5.setCell ⟨w.heap.size + 2, 3, none⟩ (.slice (some ⟨g, 0, none⟩) (acc.length + 1) cap)) v N h2 h3 recs rv globs gv funs fv T (.slice (some ⟨g, 0, none⟩) (acc.length + 1) cap) (acc ++ [x]) n (rowM N 3 i l).1.2 (rowM N 3 i l).2 := by
  have z4 := hm.1.size
  have lo := h.low
  have md := h.mid
  have bg := h.big
  have hrow : ∀ b, (Value.slice p acc.length c).ownBlock = some b → h3 < b ∧ b < wr.heap.size := fun b hb => by
    have := own_lt h.own hb
    omega
  have A5 := ((h.at_.call hm).alloc o).grown hgrow (fun b hb => by have := hrow b hb; omega)
  have k2 : ∀ b, w.heap.size + 2 < b → (Value.slice p acc.length c).ownBlock ≠ some b → b < w4.heap.size → (w5.setCell ⟨w.heap.size + 2, 3, none⟩ (.slice (some ⟨g, 0, none⟩) (acc.length + 1) cap)).heap[b]? = w4.heap[b]? := fun b h1 h2 h3 => by
    rw [Below.heap_setCell _ _ _ _ (by simp; omega), hgrow.block b (by simp; omega) (fun e => h2 e.symm), Below.heap_alloc _ _ _ h3]
  have k1 : ∀ b, w.heap.size + 2 < b → b < wr.heap.size → w4.heap[b]? = wr.heap[b]? := fun b h1 h2 => hm.1.block b h2 (by omega)
  have k12 : ∀ b, w.heap.size + 2 < b → b ≤ h3 → b < wr.heap.size → (w5.setCell ⟨w.heap.size + 2, 3, none⟩ (.slice (some ⟨g, 0, none⟩) (acc.length + 1) cap)).heap[b]? = wr.heap[b]? := fun b h1 h2' hl => (k2 b h1 (fun e => by have := hrow b e; omega) (by omega)).trans (k1 b h1 hl)
  have z6 : wr.heap.size ≤ w5.heap.size := by
    have := hgrow.size
    simp at this
    omega
  have z46 : w4.heap.size < w5.heap.size := by
    have := hgrow.size
    simp at this
    omega
  refine ⟨A5.set 3 _, h.ah.keep (fun b h1 h2' hl => k12 b h1 (by omega) hl), ⟨h.fns.1.keep (fun b hb hl => k12 b (by omega) (by omega) hl), fun y hy => Fn.ok.keep (h.fns.2 y hy) (fun b hb hl => k12 b (by omega) (by omega) hl)⟩, ?_,
    grow_ok (fun w F (x : Th) => x.ok w F) (fun h k => Th.ok.keep h k) (fun h k => Th.ok.mono h k) h.ok hx h.big z4 hrow (fun b h1 h2 => k1 b (by omega) h2) (fun b h1 => k2 b (by omega)) hat, fun y hy => ?_, ?_, ?_, by have := h.few; simp; omega, lo, md, ?_⟩
  · have := ownsRow_setCell_below hown (a := ⟨w.heap.size + 2, 3, none⟩) (by simp; omega) (.slice (some ⟨g, 0, none⟩) (acc.length + 1) cap)
    simpa using this
  · simp only [List.mem_append, List.mem_cons, List.not_mem_nil, or_false] at hy
    rcases hy with hy | rfl
    · exact h.tr y hy
    · exact hxt
  · intro t0 rest he
    cases acc with
    | nil =>
      simp only [List.nil_append, List.cons.injEq] at he
      obtain ⟨rfl, rfl⟩ := he
      refine ⟨fun s hs => grow_new (fun w F (x : St) => x.ok w F) (fun h k => St.ok.keep h k) (fun h k => St.ok.mono h k) (hxo s hs) h.big z4 hrow (fun b h1 => k2 b (by omega)) hat, by simp, fun b hb => ?_⟩
      have := hxb b hb
      refine ⟨by omega, by simp [World.setCell]; omega, fun e => ?_⟩
      simp [Value.ownBlock] at e
      subst e
      rcases hat with h' | h'
      · have := hrow _ h'
        omega
      · omega
    | cons t r =>
      simp only [List.cons_append, List.cons.injEq] at he
      obtain ⟨rfl, rfl⟩ := he
      obtain ⟨a1, a2, a3⟩ := h.fst t r rfl
      refine ⟨fun s hs => grow_old (fun w F (x : St) => x.ok w F) (fun h k => St.ok.keep h k) (fun h k => St.ok.mono h k) (a1 s hs) z4 (fun b h1 h2 => k1 b (by omega) h2) (fun b h1 => k2 b (by omega)) hat, fun y hy => ?_, fun b hb => ?_⟩
      · simp only [List.mem_append, List.mem_cons, List.not_mem_nil, or_false] at hy
        rcases hy with hy | rfl
        · exact grow_old (fun w F (x : Th) => x.ok w F) (fun h k => Th.ok.keep h k) (fun h k => Th.ok.mono h k) (a2 y hy) z4 (fun b h1 h2 => k1 b (by omega) h2) (fun b h1 => k2 b (by omega)) hat
        · exact grow_new (fun w F (x : Th) => x.ok w F) (fun h k => Th.ok.keep h k) (fun h k => Th.ok.mono h k) (Th.ok.mono hx (fun b hb hl => ⟨hb, fun e => by have := a3 b e; omega⟩)) h.big z4 hrow (fun b h1 => k2 b (by omega)) hat
      · have := a3 b hb
        refine ⟨by omega, by simp [World.setCell]; omega, fun e => ?_⟩
        simp [Value.ownBlock] at e
        subst e
        rcases hat with h' | h'
        · exact this.2.2 h'
        · omega
  · rw [h.rest, thsM]
    simp [hb]
  · simp [World.setCell]
    omega
end Go.Proofs.Ytfdfeiempeciiaa
