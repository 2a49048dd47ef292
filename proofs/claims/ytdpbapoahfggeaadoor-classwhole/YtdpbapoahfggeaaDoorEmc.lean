/- A single value goes into a part of a variable. -/
import Derived.Test.YtdpbapoahfggeaaDoorM08
import Derived.Deep.QuietTactic
import Derived.BigQuiet
namespace Go.Proofs.YtdpbapoahfggeaaDoor
open Go.ChangeShapes Go.WideShapes Go.ChangeAt Go.RowKit Go.Deep
set_option linter.unusedVariables false
set_option linter.unusedSimpArgs false

theorem VarAt.touch {T : Nat → Prop} {w w' : World} {b : Nat} {cs : List Value} {t : TypeId} (h : VarAt w b cs t) (k : Touch T w w') (hb : ¬ T b) : VarAt w' b cs t := (k.block b h.lt hb).trans h
theorem VarAt.cell {w : World} {b : Nat} {cs : List Value} {t : TypeId} (h : VarAt w b cs t) (j : Nat) {v : Value} (hj : cs[j]? = some v) : w.cell? ⟨b, j, none⟩ = some v := h.box.2 j v hj

def nV (n : Nat) : Value := .int .u64 (n : Int)
def cellsN (l : List Nat) : List Value := l.map nV
theorem cellsN_at {l : List Nat} {j : Nat} (h : j < l.length) : (cellsN l)[j]? = some (.int .u64 ((l.getD j 0 : Nat) : Int)) := by
  unfold cellsN
  simp [List.getD, h, nV]
theorem cellsN_set (l : List Nat) (j v : Nat) : (cellsN l).set j (.int .u64 (v : Int)) = cellsN (l.set j v) := by
  unfold cellsN
  rw [List.map_set]
  rfl
theorem cellsN_len (l : List Nat) : (cellsN l).length = l.length := by simp [cellsN]

theorem VarAt.there {w : World} {b : Nat} {cs : List Value} {t : TypeId} (h : VarAt w b cs t) (o n : Nat) (hn : o + n ≤ cs.length) : w.there b o n := fun j hj => by
  refine ⟨?_, h.frozen _⟩
  rw [h.box.2 (o + j) _ (List.getElem?_eq_getElem (by omega))]
  rfl
theorem run_store_cell {w : World} (ty : TypeId) (b o : Nat) (u : Value) (hT : (Tryd.prog.info? ty).map (·.size) = some 1) (h1 : u.oneCell' = true) (cs : List Value) (t : TypeId) (hv : VarAt w b cs t) (hl : o < cs.length) :
    (storeVar ty ⟨b, o, none⟩ u).run Tryd.prog w = .ok () (w.setCell ⟨b, o, none⟩ u) := by
  have hc : u.cells = #[u] := by cases u <;> first | rfl | simp [Value.oneCell'] at h1
  have hs := run_storeCells_cells (P := Tryd.prog) b o [u] 0 w (fun j hj => by simpa using (hv.there o 1 (by omega) j (by simpa using hj)).1) (fun j hj => by simpa using (hv.there o 1 (by omega) j (by simpa using hj)).2) (fun v hv => by simp at hv; subst hv; exact h1)
  cases hq : Tryd.prog.info? ty with
  | none => simp [hq] at hT
  | some i =>
    have e : i.size = 1 := by simpa [hq] using hT
    simp only [Nat.add_zero] at hs
    simp [storeVar, sizeOf, typeInfo, hq, hc, e]
    simpa [World.setCells] using hs
/-- A single value goes into a part of a variable. -/
theorem wl_store_cell {ops : Array Oper} {rest : List Oper} {op : Oper} {a : Act} {w : World} {Q : Exit → Act → World → Prop} (ty : TypeId) (x y : Operand) (ho : op.op = .store ty x y) (hw : Region.wanted op (yielded ops a.tmps) = true)
    (b o : Nat) (hx : a.eval x = .pointer (some ⟨b, o, none⟩)) (u : Value) (hy : a.eval y = u) (hT : (Tryd.prog.info? ty).map (·.size) = some 1) (h1 : u.oneCell' = true)
    (cs : List Value) (t : TypeId) (hv : VarAt w b cs t) (hl : o < cs.length)
    (h : ∀ w', VarAt w' b (cs.set o u) t → Turned b w w' → wpList Tryd.prog ops Q rest (a.put op.dst undef) w') : wpList Tryd.prog ops Q (op :: rest) a w := by
  refine wpList_step fun K hK => ?_
  rw [if_pos hw]
  unfold Oper.wp execOp
  simp only [ho, hx, hy, Instr.storeAt, Instr.sureAddr, Sem.run_bind, Sem.run_pure, Result.andThen_ok, run_store_cell ty b o u hT h1 cs t hv hl]
  exact hK _ _ (h _ (hv.set o u) (Turned.sets b [u] o w))
def zeros (n : Nat) : List Nat := List.replicate n 0
theorem own_keep {w w' : World} {base : Nat} {e : TypeId} {size : Nat} {v : Value} {n : Nat} {xs : List Value} (h : w.ownsRow base e size v n xs) (k : ∀ g, base ≤ g → g < w.heap.size → w'.heap[g]? = w.heap[g]?) : w'.ownsRow base e size v n xs := by
  refine ⟨h.1, ?_⟩
  rcases h.2 with h2 | ⟨g, cap, cur, hv, hb, hg, rest⟩
  · exact .inl h2
  · exact .inr ⟨g, cap, cur, hv, hb, (k g hb (Array.getElem?_eq_some_iff.1 hg).1).trans hg, rest⟩
theorem own_lt {w : World} {base : Nat} {e : TypeId} {size : Nat} {v : Value} {n : Nat} {xs : List Value} (h : w.ownsRow base e size v n xs) {g : Nat} (hg : v.ownBlock = some g) : base ≤ g ∧ g < w.heap.size := by
  rcases h.2 with ⟨rfl, _⟩ | ⟨g', cap, cur, rfl, hb, hg', rest⟩
  · simp [Value.ownBlock] at hg
  · simp [Value.ownBlock] at hg
    subst hg
    exact ⟨hb, (Array.getElem?_eq_some_iff.1 hg').1⟩
theorem grown_touch {w w' : World} {base : Nat} {e : TypeId} {size n : Nat} {v : Value} {xs : List Value} (g : w.grownBy w' v.ownBlock) (ho : w.ownsRow base e size v n xs) : Touch (fun b => v.ownBlock = some b) w w' :=
  ⟨g.os, g.tape, g.output, g.size, fun b hb hT => g.block b hb (fun q => hT q.symm)⟩
theorem below_touch {B : Nat} {T : Nat → Prop} {a b c : World} (h : Below B a b) (k : Touch T b c) (hT : ∀ i, i < B → ¬ T i) (hB : B ≤ a.heap.size := by exact Nat.le_refl _) : Below B a c :=
  h.trans (k.below (fun i hi => ⟨by have := h.size; omega, hT i hi⟩))
theorem Turned.t1 {b : Nat} {w w' : World} (h : Turned b w w') : Touch (fun i => i = b) w w' :=
  ⟨h.os, h.tape, h.output, Nat.le_of_eq h.size.symm, fun i _ hn => h.block i hn⟩
theorem wpIn_calm {F : Fence} {n : Nat} {c : Code} {Q : Exit → Act → World → Prop} {a : Act} {w : World} (h : c.wpIn F n Tryd.prog (Exit.then (Q .normal) (fun _ _ _ => False)) a w) : c.wpIn F n Tryd.prog Q a w :=
  wpIn_mono h (fun e a w h => by cases e <;> first | exact h | exact h.elim)
theorem nd_of (ops : Array Oper) (h : ops.toList.all (fun o => match o.op with | .defer _ => false | _ => true) = true) : ∀ (i : Nat) (o : Oper), ops[i]? = some o → ∀ c, o.op ≠ .defer c := fun i o ho c hc => by
  have hm : o ∈ ops.toList := by
    rw [← Array.getElem?_toList] at ho
    exact List.mem_of_getElem? ho
  have := List.all_eq_true.1 h o hm
  rw [hc] at this
  simp at this
theorem bits_lt {s k q : Nat} (h : (bitsL s)[k]? = some q) : q < 64 ∧ s.testBit q = true := mem_bits.1 (List.mem_of_getElem? h)
end Go.Proofs.YtdpbapoahfggeaaDoor
