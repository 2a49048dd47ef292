/- Rows of one struct, made of a literal; what is known of the types of structs. -/
import Derived.Test.YtfdfeiempeciiaaVars
import Derived.Test.YtfdfeiempeciiaaMakeM
import Derived.OwnWalk
namespace Go.Proofs.Ytfdfeiempeciiaa
open Go.ChangeShapes Go.WideShapes Go.ChangeAt Go.RowKit
set_option linter.unusedVariables false

def Nm.zero : Nm := ⟨{ data := #[] }, 0, { data := #[] }, 0, 0⟩
def Rc.zero : Rc := ⟨{ data := #[] }, [], .slice none 0 0, 0, 0⟩
def Fn.zero : Fn := ⟨{ data := #[] }, [], .slice none 0 0, [], .slice none 0 0, 0, 0⟩
def Th.zero : Th := ⟨[], .slice none 0 0, 0, 0⟩
theorem info46 : (Try.prog.info? 46).map (fun i => (i.zero, i.size, i.bytes)) = some (some Ex.zero.val, 9, 104) := by kernel_rfl
theorem info52 : (Try.prog.info? 52).map (fun i => (i.zero, i.size, i.bytes)) = some (some St.zero.val, 58, 688) := by kernel_rfl
theorem info82 : (Try.prog.info? 82).map (fun i => (i.zero, i.size, i.bytes)) = some (some Nm.zero.val, 5, 56) := by kernel_rfl
theorem info76 : (Try.prog.info? 76).map (fun i => (i.zero, i.size, i.bytes)) = some (some Rc.zero.val, 4, 56) := by kernel_rfl
theorem info58 : (Try.prog.info? 58).map (fun i => (i.zero, i.size, i.bytes)) = some (some Fn.zero.val, 5, 80) := by kernel_rfl
theorem info37 : (Try.prog.info? 37).map (fun i => (i.zero, i.size, i.bytes)) = some (some Th.zero.val, 3, 40) := by kernel_rfl

theorem fold_set : ∀ (l : List Value) (k : Nat) (a : Array Value), k + l.length ≤ a.size → ((l.zipIdx k).foldl (fun cs (p : Value × Nat) => cs.setIfInBounds (0 + p.2) p.1) a).toList = a.toList.take k ++ (l ++ a.toList.drop (k + l.length))
  | [], k, a, h => by simp
  | v :: r, k, a, h => by
    simp only [List.length_cons] at h
    rw [List.zipIdx_cons, List.foldl_cons, fold_set r (k + 1) _ (by simp; omega)]
    simp only [Nat.zero_add, Array.toList_setIfInBounds, List.length_cons]
    rw [List.drop_set_of_lt (by omega), show k + (r.length + 1) = k + 1 + r.length by omega]
    have e : (a.toList.set k v).take (k + 1) = a.toList.take k ++ [v] := by
      rw [List.take_add_one, List.take_set_of_le (by omega), List.getElem?_set_self (by simp; omega)]
      rfl
    rw [e]
    simp

theorem fill_one (A : Array Value) (n : Nat) (cs : List Value) (hc : cs.length = n) (hA : A.size = n) : Instr.fill (fun i => some (i * n, n)) A [(0, Value.agg cs.toArray)] = some cs.toArray := by
  have f := fold_set cs 0 A (by omega)
  rw [List.take_zero, List.nil_append, Nat.zero_add, List.drop_eq_nil_of_le (by simp; omega), List.append_nil] at f
  have e : (cs.toArray.zipIdx.foldl (fun a (p : Value × Nat) => a.setIfInBounds (0 * n + p.2) p.1) A) = cs.toArray := by
    apply Array.ext'
    simpa using f
  simp [Instr.fill, Value.cells, hc, hA]
  simpa using e

theorem run_slice1 (t e : TypeId) (i : TypeInfo) (z : Value) (n : Nat) (h1 : Try.prog.underlying t = some (.slice e)) (h2 : Try.prog.info? e = some i) (h3 : i.zero = some z) (h4 : i.size = n) (h6 : 0 < n) (h7 : n ≤ 1000) (cs : List Value) (hc : cs.length = n) (w : World) :
    (Instr.buildSlice t 1 #[(0, .agg cs.toArray)]).run Try.prog w = .ok (.slice (some ⟨w.heap.size, 0, none⟩) 1 1) (w.alloc (.cells cs.toArray e)) := by
  have hz : (zeroValue e).run Try.prog w = .ok z w := by simp [zeroValue, typeInfo, h2, h3]
  have hs : (sizeOf e).run Try.prog w = .ok n w := by simp [sizeOf, typeInfo, h2, h4]
  have hf := fun A hA => fill_one A n cs hc hA
  unfold Instr.buildSlice
  simp only [Sem.run_bind, run_underlying h1, Result.andThen_ok, hs]
  have g1 : ¬ (1 * n > 2 ^ 24) := by omega
  have g2 : ¬ (1 * n = 0) := by omega
  simp only [g1, g2, if_false, Sem.run_bind, Sem.run_pure, Result.andThen_ok, hz, hf _ (show ((Array.range (1 * n)).map (z.cells[· % z.cells.size]!)).size = n by simp)]
  simp [newRow]

section
variable {ops : Array Oper} {rest : List Oper} {op : Oper} {a : Act} {w : World} {Q : Exit → Act → World → Prop}
/-- A row of one struct. -/
theorem wl_slice1 (t e : TypeId) (z : Value) (n m : Nat) (x : Operand) (ho : op.op = .buildSlice t 1 #[(0, x)]) (hw : Region.wanted op (yielded ops a.tmps) = true) (h1 : Try.prog.underlying t = some (.slice e))
    (h2 : (Try.prog.info? e).map (fun i => (i.zero, i.size, i.bytes)) = some (some z, n, m)) (h6 : 0 < n) (h7 : n ≤ 1000) (cs : List Value) (hc : cs.length = n) (hx : a.eval x = .agg cs.toArray)
    (h : wpList Try.prog ops Q rest (a.put op.dst (.slice (some ⟨w.heap.size, 0, none⟩) 1 1)) (w.alloc (.cells cs.toArray e))) : wpList Try.prog ops Q (op :: rest) a w := by
  obtain ⟨i, hi, z0, z1, z2⟩ := info_parts h2
  refine wpList_step fun K hK => ?_
  rw [if_pos hw]
  unfold Oper.wp execOp
  simp only [ho, List.map_toArray, List.map_cons, List.map_nil, hx, Sem.run_bind, run_slice1 t e i z n h1 hi z0 z1 h6 h7 cs hc w, Result.andThen_ok, Sem.run_pure]
  exact hK _ _ h
end
end Go.Proofs.Ytfdfeiempeciiaa
