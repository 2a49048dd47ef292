/- Variables of struct types in blocks of their own, and stores of structs into them. -/
import Derived.Test.YtfdfeiempeciiaaRf
namespace Go.Proofs.Ytfdfeiempeciiaa
open Go.ChangeShapes Go.WideShapes Go.ChangeAt Go.RowKit
set_option linter.unusedVariables false

/-- A block of type t holds these cells. -/
def VarAt (w : World) (b : Nat) (cs : List Value) (t : TypeId) : Prop := w.heap[b]? = some (.cells cs.toArray t (0, 0))
theorem VarAt.lt {w : World} {b : Nat} {cs : List Value} {t : TypeId} (h : VarAt w b cs t) : b < w.heap.size := (Array.getElem?_eq_some_iff.1 h).1
theorem VarAt.new (w : World) (cs : List Value) (t : TypeId) : VarAt (w.alloc (.cells cs.toArray t)) w.heap.size cs t := heap_alloc_new _ _
theorem VarAt.kept {w w' : World} {b : Nat} {cs : List Value} {t : TypeId} (h : VarAt w b cs t) (k : Below w.heap.size w w') : VarAt w' b cs t := (k.block b h.lt).trans h
theorem VarAt.touch {w w' : World} {b : Nat} {cs : List Value} {t : TypeId} {T : Nat → Prop} (h : VarAt w b cs t) (k : Touch T w w') (hT : ¬ T b) : VarAt w' b cs t := (k.block b h.lt hT).trans h
theorem VarAt.range {w : World} {b : Nat} {cs : List Value} {t : TypeId} (h : VarAt w b cs t) : w.rangeAt b 0 cs := fun j v hv => by
  rw [Nat.zero_add, cell_of_row _ _ j _ _ _ h]
  simpa using hv
theorem VarAt.cell {w : World} {b : Nat} {cs : List Value} {t : TypeId} (h : VarAt w b cs t) (j : Nat) {v : Value} (hv : cs[j]? = some v) : w.cell? ⟨b, j, none⟩ = some v := range_cell h.range j hv
theorem VarAt.frozen {w : World} {b : Nat} {cs : List Value} {t : TypeId} (h : VarAt w b cs t) (j : Nat) : w.frozen? ⟨b, j, none⟩ = false := by
  have h : w.heap[b]? = some (.cells cs.toArray t (0, 0)) := h
  simp [World.frozen?, h]
theorem VarAt.set {w : World} {b : Nat} {cs : List Value} {t : TypeId} (h : VarAt w b cs t) (j : Nat) (v : Value) : VarAt (w.setCell ⟨b, j, none⟩ v) b (cs.set j v) t := by
  have h : w.heap[b]? = some (.cells cs.toArray t (0, 0)) := h
  simp only [VarAt, World.setCell, Array.getElem?_modify]
  simp [h]

/-- Cells, some of them put anew. -/
def splice : List Value → Nat → List Value → List Value
  | cs, _, [] => cs
  | cs, o, v :: r => splice (cs.set o v) (o + 1) r
theorem VarAt.sets {b : Nat} {t : TypeId} : ∀ (ds : List Value) (o : Nat) (w : World) (cs : List Value), VarAt w b cs t → VarAt (w.setCells b o ds) b (splice cs o ds) t
  | [], _, _, _, h => h
  | v :: r, o, w, cs, h => VarAt.sets r (o + 1) _ _ (h.set o v)
theorem touch_sets (b : Nat) : ∀ (ds : List Value) (o : Nat) (w : World), Touch (fun g => g = b) w (w.setCells b o ds)
  | [], _, w => Touch.refl _ w
  | v :: r, o, w => (Touch.setCell (T := fun g => g = b) w ⟨b, o, none⟩ v rfl).trans (touch_sets b r (o + 1) _)
theorem VarAt.there {w : World} {b : Nat} {cs : List Value} {t : TypeId} (h : VarAt w b cs t) (o n : Nat) (hn : o + n ≤ cs.length) : w.there b o n := fun j hj => by
  refine ⟨?_, h.frozen _⟩
  rw [h.cell (o + j) (List.getElem?_eq_getElem (by omega))]
  rfl

section
variable {ops : Array Oper} {rest : List Oper} {op : Oper} {a : Act} {w : World} {Q : Exit → Act → World → Prop}
/-- A struct goes into a part of a variable. -/
theorem wl_store_part (ty : TypeId) (x y : Operand) (ho : op.op = .store ty x y) (hw : Region.wanted op (yielded ops a.tmps) = true)
    (b o : Nat) (hx : a.eval x = .pointer (some ⟨b, o, none⟩)) (ds : List Value) (hy : a.eval y = .agg ds.toArray) (hT : AggT ty ds.length) (h1 : ∀ v ∈ ds, v.oneCell' = true)
    (cs : List Value) (t : TypeId) (hv : VarAt w b cs t) (hl : o + ds.length ≤ cs.length)
    (h : ∀ w', VarAt w' b (splice cs o ds) t → Touch (fun g => g = b) w w' → wpList Try.prog ops Q rest (a.put op.dst undef) w') : wpList Try.prog ops Q (op :: rest) a w := by
  obtain ⟨d, _, _, h3⟩ := hT
  refine wpList_step fun K hK => ?_
  rw [if_pos hw]
  refine wp_store_mid ty x y ho b o ds.toArray hx hy (by simpa using hv.there o ds.length hl) (by simpa using h3) (all_oneCell_toArray h1) ?_
  exact hK _ _ (h _ (VarAt.sets ds o w cs hv) (touch_sets b ds o w))

/-- A single value goes into a part of a variable. -/
theorem wl_store_cell (ty : TypeId) (x y : Operand) (ho : op.op = .store ty x y) (hw : Region.wanted op (yielded ops a.tmps) = true)
    (b o : Nat) (hx : a.eval x = .pointer (some ⟨b, o, none⟩)) (u : Value) (hy : a.eval y = u) (hT : (Try.prog.info? ty).map (·.size) = some 1) (h1 : u.oneCell' = true)
    (cs : List Value) (t : TypeId) (hv : VarAt w b cs t) (hl : o < cs.length)
    (h : ∀ w', VarAt w' b (cs.set o u) t → Touch (fun g => g = b) w w' → wpList Try.prog ops Q rest (a.put op.dst undef) w') : wpList Try.prog ops Q (op :: rest) a w := by
  have hc : u.cells = #[u] := by cases u <;> first | rfl | simp [Value.oneCell'] at h1
  have hr : (storeVar ty ⟨b, o, none⟩ u).run Try.prog w = .ok () (w.setCell ⟨b, o, none⟩ u) := by
    have hs := run_storeCells_cells (P := Try.prog) b o [u] 0 w (fun j hj => by simpa using (hv.there o 1 (by omega) j (by simpa using hj)).1) (fun j hj => by simpa using (hv.there o 1 (by omega) j (by simpa using hj)).2) (fun v hv => by simp at hv; subst hv; exact h1)
    cases hq : Try.prog.info? ty with
    | none => simp [hq] at hT
    | some i =>
      have e : i.size = 1 := by simpa [hq] using hT
      simp only [Nat.add_zero] at hs
      simp [storeVar, sizeOf, typeInfo, hq, hc, e]
      simpa [World.setCells] using hs
  refine wpList_step fun K hK => ?_
  rw [if_pos hw]
  unfold Oper.wp execOp
  simp only [ho, hx, hy, Instr.storeAt, Instr.sureAddr, Sem.run_bind, Sem.run_pure, Result.andThen_ok, hr]
  exact hK _ _ (h _ (hv.set o u) (Touch.setCell (T := fun g => g = b) w ⟨b, o, none⟩ u rfl))
end

theorem splice_eq : ∀ (ds : List Value) (o : Nat) (cs : List Value), o + ds.length ≤ cs.length → splice cs o ds = cs.take o ++ (ds ++ cs.drop (o + ds.length))
  | [], o, cs, h => by simp [splice]
  | v :: r, o, cs, h => by
    simp only [List.length_cons] at h
    rw [splice, splice_eq r (o + 1) _ (by simp; omega)]
    simp only [List.length_cons]
    rw [List.drop_set_of_lt (by omega), show o + (r.length + 1) = o + 1 + r.length by omega]
    have e : (cs.set o v).take (o + 1) = cs.take o ++ [v] := by
      rw [List.take_add_one, List.take_set_of_le (by omega), List.getElem?_set_self (by omega)]
      rfl
    rw [e]
    simp
theorem splice_full (ds cs : List Value) (h : ds.length = cs.length) : splice cs 0 ds = ds := by
  rw [splice_eq ds 0 cs (by omega), List.take_zero, List.nil_append, List.drop_eq_nil_of_le (by omega), List.append_nil]

/-- New blocks may turn. -/
theorem Touch.fresh {T U : Nat → Prop} {a b c : World} (h : Touch T a b) (k : Touch U b c) (hU : ∀ g, U g → T g ∨ a.heap.size ≤ g) : Touch T a c :=
  ⟨k.os.trans h.os, k.tape.trans h.tape, k.output.trans h.output, Nat.le_trans h.size k.size, fun g hg hT => (k.block g (Nat.lt_of_lt_of_le hg h.size) (fun hu => by
    rcases hU g hu with h1 | h1
    · exact hT h1
    · omega)).trans (h.block g hg hT)⟩
theorem Touch.alloc {T : Nat → Prop} {a b : World} (h : Touch T a b) (o : Obj) : Touch T a (b.alloc o) := h.trans (Touch.of_below ((Below.refl _ _).alloc (Nat.le_refl _) _))
/-- A row made just now. -/
theorem RowAt.mades (w : World) (cs : List Value) (t : TypeId) (F : Nat → Prop) (hF : F w.heap.size) (s n : Nat) (hn : n < 1000) (hs : cs.length = n * s) : RowAt (w.alloc (.cells cs.toArray t)) F s (.slice (some ⟨w.heap.size, 0, none⟩) n n) n cs :=
  ⟨⟨hs, by omega⟩, .inr ⟨w.heap.size, n, cs.toArray, t, rfl, hF, Nat.le_refl _, heap_alloc_new _ _, by simp [← hs]⟩⟩
/-- A row of one, made just now. -/
theorem RowAt.made (w : World) (cs : List Value) (t : TypeId) (F : Nat → Prop) (hF : F w.heap.size) (s : Nat) (hs : cs.length = s) : RowAt (w.alloc (.cells cs.toArray t)) F s (.slice (some ⟨w.heap.size, 0, none⟩) 1 1) 1 cs :=
  ⟨⟨by omega, by omega⟩, .inr ⟨w.heap.size, 1, cs.toArray, t, rfl, hF, Nat.le_refl _, heap_alloc_new _ _, by simp [← hs]⟩⟩
end Go.Proofs.Ytfdfeiempeciiaa
