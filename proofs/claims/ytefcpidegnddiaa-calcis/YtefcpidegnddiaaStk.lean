/- The stack of calc's Eval: a row of uint64 with room for all; its laws for the walk (make, append in place). -/
import Derived.Test.YtefcpidegnddiaaReckon
import Derived.Laws.AppendOwn
import Derived.Laws.MakeOwn
namespace Go.Proofs.Ytefcpidegnddiaa
open Go.ChangeShapes Go.WideShapes Go.ChangeAt Go.RowKit
set_option linter.unusedVariables false

/-- The stack st in the block g, with room for cap values. -/
def Stk (w : World) (g cap : Nat) (st : List Int) : Prop :=
  ∃ cur : Array Value, w.heap[g]? = some (.cells cur 26 (0, 0)) ∧ cur.size = cap ∧ st.length ≤ cap ∧ cur.toList.take st.length = st.map (Value.int .u64)

theorem Stk.lt {w : World} {g cap : Nat} {st : List Int} (h : Stk w g cap st) : g < w.heap.size := by
  obtain ⟨cur, h, _⟩ := h
  by_cases k : g < w.heap.size
  · exact k
  · rw [Array.getElem?_eq_none (by omega)] at h; cases h

theorem Stk.kept {w w' : World} {g cap : Nat} {st : List Int} (h : Stk w g cap st) (hb : Below w.heap.size w w') : Stk w' g cap st := by
  have hl := h.lt
  obtain ⟨cur, h, h2⟩ := h
  exact ⟨cur, by rw [hb.block g hl]; exact h, h2⟩

theorem Stk.le {w : World} {g cap : Nat} {st : List Int} (h : Stk w g cap st) : st.length ≤ cap := by
  obtain ⟨_, _, _, h, _⟩ := h; exact h

theorem Stk.cell {w : World} {g cap : Nat} {st : List Int} (h : Stk w g cap st) (i : Nat) (v : Int) (hv : st[i]? = some v) : w.cell? ⟨g, i, none⟩ = some (.int .u64 v) := by
  obtain ⟨cur, h, hc, hl, ht⟩ := h
  simp only [World.cell?, h]
  have hi : i < st.length := by
    by_cases k : i < st.length
    · exact k
    · rw [List.getElem?_eq_none (by omega)] at hv; cases hv
  have e : (cur.toList.take st.length)[i]? = some (.int .u64 v) := by
    rw [ht, List.getElem?_map, hv]; rfl
  rw [List.getElem?_take_of_lt hi] at e
  simpa using e

theorem Stk.made (w : World) (n : Nat) (z : Array Value) (hz : z.size = n) : Stk (w.alloc (.cells z 26)) w.heap.size n [] :=
  ⟨z, new_block _ _, hz, Nat.zero_le _, rfl⟩

theorem info26 : (Try.prog.info? 26).map (fun i => (i.zero, i.size, i.bytes)) = some (some (.int .u64 0), 1, 8) := by kernel_rfl

theorem info_parts {o : Option TypeInfo} {z : Option Value} {n m : Nat} (h : o.map (fun i => (i.zero, i.size, i.bytes)) = some (z, n, m)) : ∃ i, o = some i ∧ i.zero = z ∧ i.size = n ∧ i.bytes = m := by
  cases o with
  | none => cases h
  | some i =>
    simp at h
    exact ⟨i, rfl, h.1, h.2.1, h.2.2⟩

section
variable {ops : Array Oper} {rest : List Oper} {o : Oper} {a : Act} {w : World} {Q : Exit → Act → World → Prop}

/-- make([]uint64, 0, n) -/
theorem wl_make (x : Operand) (ho : o.op = .makeSlice 23 (.const (.int .i64 0)) x) (hgd : o.guard = none) (n : Nat) (hx : a.eval x = .int .i64 (n : Int)) (hn : n ≤ 1000000)
    (h : ∀ w', Hid (Stk w' w.heap.size n []) → Hid (Below w.heap.size w w') → Hid (w.heap.size < w'.heap.size) → wpList Try.prog ops Q rest (a.put o.dst (.slice (some ⟨w.heap.size, 0, none⟩) 0 n)) w') : wpList Try.prog ops Q (o :: rest) a w := by
  obtain ⟨i, hi, z0, z1, z2⟩ := info_parts info26
  refine wpList_plain hgd fun K hK => ?_
  have hr := run_makeSlice (P := Try.prog) w 23 26 i (.int .u64 0) Try.underlying23 hi z0 .i64 .i64 0 (n : Int) (by omega) (by omega) (by rw [z1]; omega) (by rw [z2]; omega) (by omega)
  rw [z1] at hr
  simp only [Int.toNat_natCast, Nat.mul_one] at hr
  unfold Oper.wp execOp
  have e0 : a.eval (.const (.int .i64 0)) = .int .i64 0 := rfl
  simp only [ho, hx, e0, Sem.run_bind, hr, Result.andThen_ok, Sem.run_pure]
  refine hK _ _ (h _ ?_ ?_ ?_)
  · exact hid (Stk.made w n _ (by simp [madeCells]))
  · exact hid ((Below.refl _ _).alloc (Nat.le_refl _) _)
  · exact hid (by simp)

/-- append(stack[:k], v), with room. -/
theorem wl_push (hgd : o.guard = none) (s x : Operand) (ho : o.op = .call { callee := .builtin .append, args := #[s, x], argTypes := #[23, 23] })
    (g k cap : Nat) (hs : a.eval s = .slice (some ⟨g, 0, none⟩) k cap) (st : List Int) (hst : Stk w g cap st) (hk : k ≤ st.length) (hk2 : k < cap)
    (ad : Addr) (c : Nat) (v : Int) (hx : a.eval x = .slice (some ad) 1 c) (hv : w.cell? ad = some (.int .u64 v)) (B : Nat) (hB : B ≤ g)
    (h : ∀ w', Hid (Stk w' g cap (st.take k ++ [v])) → Hid (Below B w w') → wpList Try.prog ops Q rest (a.put o.dst (.slice (some ⟨g, 0, none⟩) (k + 1) cap)) w') : wpList Try.prog ops Q (o :: rest) a w := by
  obtain ⟨i, hi, z0, z1, z2⟩ := info_parts info26
  obtain ⟨cur, h1, h2, h3, h4⟩ := hst
  refine wpList_plain hgd fun K hK => ?_
  have hr := run_append_room (P := Try.prog) w 23 o.type 26 i Try.underlying23 hi g k cap cur h1 ad 1 c [.int .u64 v] (by rw [z1]; rfl) (by
    intro j u hj
    cases j with
    | zero =>
      simp at hj
      subst hj
      have e : ad.add 0 = ad := by simp [Addr.add]
      rw [e]; exact hv
    | succ j => simp at hj) (by intro u hu; simp at hu; subst hu; rfl) (by omega) (by rw [z1]; simp; omega)
  rw [z1] at hr
  simp only [Nat.mul_one] at hr
  unfold Oper.wp execOp
  simp only [ho, resolve, invoke, builtin, Sem.run_bind, Sem.run_pure, Result.andThen_ok, List.map_toArray, List.map_cons, List.map_nil, hs, hx, hr]
  refine hK _ _ (h _ (hid ?_) (hid ?_))
  · refine ⟨_, setRow_heap w g cur _ 26 _ h1, ?_, ?_, ?_⟩
    · simp; omega
    · rw [List.length_append, List.length_take]; simp; omega
    · have e1 : (st.take k ++ [v]).length = k + 1 := by rw [List.length_append, List.length_take]; simp; omega
      have e2 : cur.toList.take k = (st.take k).map (Value.int .u64) := by
        rw [List.map_take, ← h4, List.take_take]
        congr 1; omega
      rw [e1, e2, List.map_append]
      have e3 : ((st.take k).map (Value.int .u64) ++ [Value.int .u64 v]).length = k + 1 := by rw [List.length_append, List.length_map, List.length_take]; simp; omega
      show (((st.take k).map (Value.int .u64) ++ [Value.int .u64 v]) ++ _).take (k + 1) = _
      rw [List.take_append_of_le_length (by omega), List.take_of_length_le (by omega)]
      rfl
  · exact ⟨rfl, rfl, rfl, by simp, fun j hj => setRow_other w g j _ (by omega)⟩
end
end Go.Proofs.Ytefcpidegnddiaa
