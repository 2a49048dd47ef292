/- Boxes in a region that draws its order: what stays behind calls, allocs and stores; laws for a call and a store there. -/
import Derived.Test.YtdpbapoahfggeaaDoorInsAt
import Derived.Deep.RegionHeld3
import Derived.Deep.CutBlock
import Derived.Deep.CutRange
import Derived.Deep.DeepCutAuto
namespace Go.Proofs.YtdpbapoahfggeaaDoor
open Go.ChangeShapes Go.WideShapes Go.ChangeAt Go.RowKit
set_option linter.unusedVariables false

/-- A block of type t holds these cells. -/
def VarAt (w : World) (b : Nat) (cs : List Value) (t : TypeId) : Prop := w.heap[b]? = some (.cells cs.toArray t (0, 0))
theorem VarAt.lt {w : World} {b : Nat} {cs : List Value} {t : TypeId} (h : VarAt w b cs t) : b < w.heap.size := (Array.getElem?_eq_some_iff.1 h).1
theorem VarAt.new (w : World) (cs : List Value) (t : TypeId) : VarAt (w.alloc (.cells cs.toArray t)) w.heap.size cs t := heap_alloc_new _ _
theorem VarAt.kept {w w' : World} {b : Nat} {cs : List Value} {t : TypeId} (h : VarAt w b cs t) (k : Below w.heap.size w w') : VarAt w' b cs t := (k.block b h.lt).trans h
theorem VarAt.past {w : World} {b : Nat} {cs : List Value} {t : TypeId} (h : VarAt w b cs t) (o : Obj) : VarAt (w.alloc o) b cs t := h.kept ((Below.refl _ _).alloc (Nat.le_refl _) o)
theorem VarAt.box {w : World} {b : Nat} {cs : List Value} {t : TypeId} (h : VarAt w b cs t) : BoxAt w b cs := ⟨h.lt, fun k u hk => by
  rw [cell_of_row _ _ k _ _ _ h]
  simpa using hk⟩
theorem VarAt.frozen {w : World} {b : Nat} {cs : List Value} {t : TypeId} (h : VarAt w b cs t) (j : Nat) : w.frozen? ⟨b, j, none⟩ = false := by
  have h : w.heap[b]? = some (.cells cs.toArray t (0, 0)) := h
  simp [World.frozen?, h]
theorem VarAt.set {w : World} {b : Nat} {cs : List Value} {t : TypeId} (h : VarAt w b cs t) (j : Nat) (v : Value) : VarAt (w.setCell ⟨b, j, none⟩ v) b (cs.set j v) t := by
  have h : w.heap[b]? = some (.cells cs.toArray t (0, 0)) := h
  simp only [VarAt, World.setCell, Array.getElem?_modify]
  simp [h]

/-- Cells, some of them put anew. -/
def splice : List Value → Nat → List Value → List Value
  | cs, _, [] => cs
  | cs, o, v :: r => splice (cs.set o v) (o + 1) r
theorem VarAt.sets {b : Nat} {t : TypeId} : ∀ (ds : List Value) (o : Nat) (w : World) (cs : List Value), VarAt w b cs t → VarAt (w.setCells b o ds) b (splice cs o ds) t
  | [], _, _, _, h => h
  | v :: r, o, w, cs, h => VarAt.sets r (o + 1) _ _ (h.set o v)

theorem size_drew (w : World) : w.drew.heap.size = w.heap.size := rfl

/-- Nothing but block b has turned. -/
structure Turned (b : Nat) (w w' : World) : Prop where
  os : w'.os = w.os
  tape : w'.tape = w.tape
  output : w'.output = w.output
  size : w'.heap.size = w.heap.size
  block : ∀ k, k ≠ b → w'.heap[k]? = w.heap[k]?
theorem Turned.refl (b : Nat) (w : World) : Turned b w w := ⟨rfl, rfl, rfl, rfl, fun _ _ => rfl⟩
theorem Turned.sets (b : Nat) : ∀ (ds : List Value) (o : Nat) (w : World), Turned b w (w.setCells b o ds)
  | [], _, w => Turned.refl b w
  | v :: r, o, w => by
    have h := Turned.sets b r (o + 1) (w.setCell ⟨b, o, none⟩ v)
    refine ⟨h.os, h.tape, h.output, h.size.trans (by simp [World.setCell]), fun k hk => (h.block k hk).trans (Below.heap_setCell _ _ _ _ hk)⟩
theorem Turned.var {p b : Nat} {w w' : World} {cs : List Value} {t : TypeId} (h : Turned p w w') (k : VarAt w b cs t) (hb : b ≠ p) : VarAt w' b cs t := (h.block b hb).trans k
theorem Turned.box {p b : Nat} {w w' : World} {cs : List Value} (h : Turned p w w') (k : BoxAt w b cs) (hb : b ≠ p) : BoxAt w' b cs :=
  ⟨by rw [h.size]; exact k.1, fun j u hj => (World.cell?_of_block (a := ⟨b, j, none⟩) (h.block b hb)).trans (k.2 j u hj)⟩
theorem Turned.below {p : Nat} {w0 w w' : World} (h : Turned p w w') (k : Below w0.heap.size w0 w) (hp : w0.heap.size ≤ p) : Below w0.heap.size w0 w' :=
  ⟨h.os.trans k.os, h.tape.trans k.tape, h.output.trans k.output, by rw [h.size]; exact k.size, fun j hj => (h.block j (by omega)).trans (k.block j hj)⟩

/-- The world behind some steps: the code's box, the section's box (laid first). -/
structure Rg (w : World) (b : Nat) (v0 v1 v2 v3 v4 u0 u1 u2 : Value) (W : World) : Prop where
  bel : Below w.heap.size w W
  lt : b < w.heap.size
  k5 : BoxAt W b [v0, v1, v2, v3, v4]
  s3 : BoxAt W w.heap.size [u0, u1, u2]
theorem BoxAt.drew {w : World} {b : Nat} {cs : List Value} (h : BoxAt w b cs) : BoxAt w.drew b cs := h.kept (Below.refl _ _).drew
section
variable {w W W' : World} {b : Nat} {v0 v1 v2 v3 v4 u0 u1 u2 : Value}
theorem Rg.kept (h : Rg w b v0 v1 v2 v3 v4 u0 u1 u2 W) (k : Below W.heap.size W W') : Rg w b v0 v1 v2 v3 v4 u0 u1 u2 W' := ⟨h.bel.trans (k.mono h.bel.size), h.lt, h.k5.kept k, h.s3.kept k⟩
theorem Rg.past (h : Rg w b v0 v1 v2 v3 v4 u0 u1 u2 W) (o : Obj) : Rg w b v0 v1 v2 v3 v4 u0 u1 u2 (W.alloc o) := h.kept ((Below.refl _ _).alloc (Nat.le_refl _) o)
theorem Rg.drew (h : Rg w b v0 v1 v2 v3 v4 u0 u1 u2 W) : Rg w b v0 v1 v2 v3 v4 u0 u1 u2 W.drew := ⟨h.bel.drew, h.lt, h.k5.drew, h.s3.drew⟩
theorem Turned.rg {p : Nat} (h : Turned p W W') (k : Rg w b v0 v1 v2 v3 v4 u0 u1 u2 W) (hp : w.heap.size < p) : Rg w b v0 v1 v2 v3 v4 u0 u1 u2 W' :=
  ⟨h.below k.bel (by omega), k.lt, h.box k.k5 (by have := k.lt; omega), h.box k.s3 (by omega)⟩
theorem Rg.box (h : Rg w b v0 v1 v2 v3 v4 u0 u1 u2 W) : W.cell? ⟨b, 0, none⟩ = some v0 ∧ W.cell? ⟨b, 1, none⟩ = some v1 ∧ W.cell? ⟨b, 2, none⟩ = some v2 ∧ W.cell? ⟨b, 3, none⟩ = some v3 ∧ W.cell? ⟨b, 4, none⟩ = some v4 ∧ W.cell? ⟨w.heap.size, 0, none⟩ = some u0 ∧ W.cell? ⟨w.heap.size, 1, none⟩ = some u1 ∧ W.cell? ⟨w.heap.size, 2, none⟩ = some u2 :=
  ⟨h.k5.2 0 _ rfl, h.k5.2 1 _ rfl, h.k5.2 2 _ rfl, h.k5.2 3 _ rfl, h.k5.2 4 _ rfl, h.s3.2 0 _ rfl, h.s3.2 1 _ rfl, h.s3.2 2 _ rfl⟩
end

/-- A call of three in a region that draws its order, by its contract. -/
theorem step_call3 {ops : Array Oper} {o : Oper} {a : Act} {w : World} {K : Act → World → Prop} {Q : Exit → Act → World → Prop} {E : Prop} (f : Nat) (ef : ∀ args w, (callFunc f args).run Tryd.prog w = .ok (.enter f args) w)
    (hw : Region.wanted o (yielded ops a.tmps) = true) (x y z : Operand) (ts : Array TypeId) (ho : o.op = .call { callee := .value (.func f), args := #[x, y, z], argTypes := ts }) (vx vy vz : Value) (hx : a.eval x = vx) (hy : a.eval y = vy) (hz : a.eval z = vz)
    {v : Value} (C : Calls Tryd.prog f #[vx, vy, vz] w fun e w' => e = .returned v ∧ Below w.heap.size w w') (h : ∀ r w', (r = v ∧ Below w.heap.size w w') → K (a.put o.dst r) w') :
    if Region.wanted o (yielded ops a.tmps) = true then Oper.wp Tryd.prog o a w K Q else E := by
  rw [if_pos hw]
  unfold Oper.wp execOp
  have e : a.eval (.func f) = .func (.func f) #[] #[] := rfl
  have hv : #[x, y, z].map a.eval = #[vx, vy, vz] := by simp [hx, hy, hz]
  simp only [ho, resolve, hv, e, Deferred.ofValue, invoke, Sem.run_bind, Sem.run_pure, Result.andThen_ok, Array.append_empty, ef]
  simp
  rw [Oper.upon_enter]
  refine C.mono ?_
  rintro e w' ⟨rfl, hR⟩
  exact h _ w' ⟨rfl, hR⟩

/-- A struct goes into a box of its own. -/
theorem step_store {ops : Array Oper} {o : Oper} {a : Act} {w : World} {K : Act → World → Prop} {Q : Exit → Act → World → Prop} {E : Prop} (ty : TypeId) (x y : Operand) (ho : o.op = .store ty x y)
    (hw : Region.wanted o (yielded ops a.tmps) = true) (b : Nat) (hx : a.eval x = .pointer (some ⟨b, 0, none⟩)) (cs : List Value) (hy : a.eval y = .agg cs.toArray) (hi : (Tryd.prog.info? ty).map (·.size) = some cs.length) (h1 : ∀ v ∈ cs, v.oneCell' = true)
    (old : List Value) (t : TypeId) (hv : VarAt w b old t) (hl : old.length = cs.length) (hs : splice old 0 cs = cs) (h : ∀ w', VarAt w' b cs t → Turned b w w' → K (a.put o.dst undef) w') :
    if Region.wanted o (yielded ops a.tmps) = true then Oper.wp Tryd.prog o a w K Q else E := by
  rw [if_pos hw]
  refine wp_store_mid ty x y ho b 0 cs.toArray hx hy ?_ (by simpa using hi) (all_oneCell_toArray h1) ?_
  · intro j hj
    refine ⟨?_, hv.frozen _⟩
    rw [hv.box.2 (0 + j) (old[0 + j]'(by simp at hj; omega)) (by simp)]
    rfl
  · refine h _ ?_ ?_
    · have := VarAt.sets cs 0 w old hv
      rwa [hs] at this
    · exact Turned.sets b cs 0 w
end Go.Proofs.YtdpbapoahfggeaaDoor
