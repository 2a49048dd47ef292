/- A region in the text's order whose guards are Booleans that are letters: each operation by a law, both ways at once: nothing is parted. -/
import Derived.Test.YtjjfhjelkioehaaRg
namespace Go.Proofs.Ytjjfhjelkioehaa
open Go.ChangeShapes Go.WideShapes Go.ChangeAt Go.RowKit
set_option linter.unusedVariables false
set_option linter.unusedSimpArgs false

/-- A value, where it was wanted; none, where it wasn't. -/
def ow (e : Bool) (v : Value) : Value := bif e then v else undef
theorem ow_t {e : Bool} {v x : Value} (hx : x = ow e v) (h : e = true) : x = v := by rw [hx, h]; rfl

section
variable {ops : Array Oper} {Q : Exit → Act → World → Prop} {o : Oper} {rest : List Oper} {a : Act} {w : World}

theorem wl_plain (v : Value) (hg : o.guard = none) (hr : (execOp a.eval o).run Try.prog w = .ok (.value v) w) (h : wpList Try.prog ops Q rest (a.put o.dst v) w) : wpList Try.prog ops Q (o :: rest) a w := by
  refine wpList_plain hg fun K hK => ?_
  unfold Oper.wp
  rw [hr]
  exact hK _ _ h

theorem wl_if (e : Bool) (v : Value) (hw : Region.wanted o (yielded ops a.tmps) = e) (hr : e = true → (execOp a.eval o).run Try.prog w = .ok (.value v) w)
    (h : wpList Try.prog ops Q rest (a.put o.dst (ow e v)) w) : wpList Try.prog ops Q (o :: rest) a w := by
  refine wpList_step fun K hK => ?_
  rw [hw]
  cases e
  · simp only [Bool.false_eq_true, if_false]
    exact hK _ _ h
  · simp only [if_true]
    unfold Oper.wp
    rw [hr rfl]
    exact hK _ _ h

theorem exec_call (f : Nat) (ef : ∀ args w, (callFunc f args).run Try.prog w = .ok (.enter f args) w) (xs : Array Operand) (ts : Array TypeId) (ho : o.op = .call { callee := .value (.func f), args := xs, argTypes := ts }) (vs : Array Value) (hv : xs.map a.eval = vs) :
    (execOp a.eval o).run Try.prog w = .ok (.enter f vs) w := by
  unfold execOp
  have e : a.eval (.func f) = .func (.func f) #[] #[] := rfl
  simp only [ho, resolve, hv, e, Deferred.ofValue, invoke, Sem.run_bind, Sem.run_pure, Result.andThen_ok, Array.append_empty, ef]
  simp

/-- A call that only reckons. -/
theorem wl_call (f : Nat) (ef : ∀ args w, (callFunc f args).run Try.prog w = .ok (.enter f args) w) (xs : Array Operand) (ts : Array TypeId) (vs : Array Value) (e : Bool) (v : Value)
    (ho : o.op = .call { callee := .value (.func f), args := xs, argTypes := ts }) (hw : Region.wanted o (yielded ops a.tmps) = e) (hv : e = true → xs.map a.eval = vs)
    (C : Calls Try.prog f vs w fun x w' => x = .returned v ∧ w' = w)
    (h : wpList Try.prog ops Q rest (a.put o.dst (ow e v)) w) : wpList Try.prog ops Q (o :: rest) a w := by
  refine wpList_step fun K hK => ?_
  rw [hw]
  cases e
  · simp only [Bool.false_eq_true, if_false]
    exact hK _ _ h
  · simp only [if_true]
    unfold Oper.wp
    rw [exec_call f ef xs ts ho vs (hv rfl), Oper.upon_enter]
    refine C.mono ?_
    rintro x w' ⟨rfl, rfl⟩
    exact hK _ _ h

/-- A call that makes memory of its own. -/
theorem wl_callB (f : Nat) (ef : ∀ args w, (callFunc f args).run Try.prog w = .ok (.enter f args) w) (xs : Array Operand) (ts : Array TypeId) (vs : Array Value) (e : Bool) (v : Value)
    (ho : o.op = .call { callee := .value (.func f), args := xs, argTypes := ts }) (hw : Region.wanted o (yielded ops a.tmps) = e) (hv : e = true → xs.map a.eval = vs)
    (C : e = true → Calls Try.prog f vs w fun x w' => x = .returned v ∧ Below w.heap.size w w')
    (h : ∀ w', Below w.heap.size w w' → wpList Try.prog ops Q rest (a.put o.dst (ow e v)) w') : wpList Try.prog ops Q (o :: rest) a w := by
  refine wpList_step fun K hK => ?_
  rw [hw]
  cases e
  · simp only [Bool.false_eq_true, if_false]
    exact hK _ _ (h w (Below.refl _ _))
  · simp only [if_true]
    unfold Oper.wp
    rw [exec_call f ef xs ts ho vs (hv rfl), Oper.upon_enter]
    refine (C rfl).mono ?_
    rintro x w' ⟨rfl, hb⟩
    exact hK _ _ (h w' hb)
end

section
variable {ρ : Operand → Value} {o : Oper} {w : World}
theorem ex_move {x : Operand} {v : Value} (ho : o.op = .move x) (hx : ρ x = v) : (execOp ρ o).run Try.prog w = .ok (.value v) w := by unfold execOp; rw [ho, ← hx]; rfl
theorem ex_assign {x : Operand} {v : Value} (ho : o.op = .assign x) (hx : ρ x = v) : (execOp ρ o).run Try.prog w = .ok (.value v) w := by unfold execOp; rw [ho, ← hx]; rfl
theorem ex_not {x : Operand} {t : TypeId} {b : Bool} (ho : o.op = .unOp .not t x) (hx : ρ x = .bool b) : (execOp ρ o).run Try.prog w = .ok (.value (.bool (!b))) w := by
  unfold execOp; rw [ho]; simp only [hx]; rfl
theorem ex_and {x y z : Operand} {b c : Bool} (ho : o.op = .pick x y z) (hx : ρ x = .bool b) (hy : b = true → ρ y = .bool c) (hz : ρ z = .bool false) : (execOp ρ o).run Try.prog w = .ok (.value (.bool (b && c))) w := by
  unfold execOp; rw [ho]; simp only [hx]
  cases b
  · simp only [hz]; rfl
  · simp only [hy rfl]; rfl
theorem ex_or {x y z : Operand} {b c : Bool} (ho : o.op = .pick x y z) (hx : ρ x = .bool b) (hy : b = false → ρ z = .bool c) (hz : ρ y = .bool true) : (execOp ρ o).run Try.prog w = .ok (.value (.bool (b || c))) w := by
  unfold execOp; rw [ho]; simp only [hx]
  cases b
  · simp only [hy rfl]; rfl
  · simp only [hz]; rfl
theorem ex_load1 {x : Operand} {t : TypeId} {p : Nat × Nat} {v : Value} (ho : o.op = .load t x) (hx : ρ x = .pointer (some ⟨p.1, p.2, none⟩)) (hl : (Instr.loadAt t (.pointer (some ⟨p.1, p.2, none⟩))).run Try.prog w = .ok v w) : (execOp ρ o).run Try.prog w = .ok (.value v) w := by
  unfold execOp; rw [ho]; simp only [hx, Sem.run_bind, hl, Result.andThen_ok]; rfl
theorem ld3 {b k : Nat} {n : Int} (h : w.cell? ⟨b, k, none⟩ = some (.int .i64 n)) : (Instr.loadAt 3 (.pointer (some ⟨b, k, none⟩))).run Try.prog w = .ok (.int .i64 n) w := by
  go_simp
theorem ld31 {b k : Nat} {a : Option Addr} {n c : Nat} (h : w.cell? ⟨b, k, none⟩ = some (.slice a n c)) : (Instr.loadAt 31 (.pointer (some ⟨b, k, none⟩))).run Try.prog w = .ok (.slice a n c) w := by
  go_simp
theorem ex_neq0 {x y : Operand} {n m : Int} (ho : o.op = .binOp .neq 3 x y 3) (hx : ρ x = .int .i64 n) (hy : ρ y = .int .i64 m) : (execOp ρ o).run Try.prog w = .ok (.value (.bool (n != m))) w := by
  unfold execOp; rw [ho]; simp only [hx, hy]
  go_simp
end

theorem ow_true (v : Value) : ow true v = v := rfl
theorem args1 {a : Act} {x : Operand} {v : Value} (h : a.eval x = v) : #[x].map a.eval = #[v] := by simp [h]
theorem args2 {a : Act} {x y : Operand} {v u : Value} (h : a.eval x = v) (k : a.eval y = u) : #[x, y].map a.eval = #[v, u] := by simp [h, k]
theorem args3 {a : Act} {x y z : Operand} {v u t : Value} (h : a.eval x = v) (k : a.eval y = u) (m : a.eval z = t) : #[x, y, z].map a.eval = #[v, u, t] := by simp [h, k, m]
theorem wn_n {ops : Array Oper} {o : Oper} {tmps : Array Value} (hg : o.guard = none) : Region.wanted o (yielded ops tmps) = true := by simp [Region.wanted, hg]
theorem and_l {a b : Bool} (h : (a && b) = true) : a = true := by cases a <;> simp_all
theorem and_r {a b : Bool} (h : (a && b) = true) : b = true := by cases a <;> simp_all
theorem and_i {a b : Bool} (h : a = true) (k : b = true) : (a && b) = true := by rw [h, k]; rfl
theorem not_f {a : Bool} (h : a = false) : (!a) = true := by rw [h]; rfl
section
variable {ops : Array Oper} {o : Oper} {tmps : Array Value} {j d : Nat} {e x : Bool}
theorem wn_t (hg : o.guard = some (j, true)) (hj : (ops[j]?).bind (·.dst) = some d) (hs : tmps[d]? = some (.bool x)) : Region.wanted o (yielded ops tmps) = x := by
  have hy : yielded ops tmps j = some x := by unfold yielded; rw [hj]; simp only [Option.bind, hs]
  simp only [Region.wanted, hg, hy]; cases x <;> rfl
theorem wn_f (hg : o.guard = some (j, false)) (hj : (ops[j]?).bind (·.dst) = some d) (hs : tmps[d]? = some (.bool x)) : Region.wanted o (yielded ops tmps) = !x := by
  have hy : yielded ops tmps j = some x := by unfold yielded; rw [hj]; simp only [Option.bind, hs]
  simp only [Region.wanted, hg, hy]; cases x <;> rfl
theorem wo_t (hg : o.guard = some (j, true)) (hj : (ops[j]?).bind (·.dst) = some d) (hs : tmps[d]? = some (ow e (.bool x))) : Region.wanted o (yielded ops tmps) = (e && x) := by
  cases e
  · have hy : yielded ops tmps j = none := by unfold yielded; rw [hj]; simp only [Option.bind, hs]; rfl
    simp only [Region.wanted, hg, hy]; rfl
  · have hy : yielded ops tmps j = some x := by unfold yielded; rw [hj]; simp only [Option.bind, hs]; rfl
    simp only [Region.wanted, hg, hy]; cases x <;> rfl
theorem wo_f (hg : o.guard = some (j, false)) (hj : (ops[j]?).bind (·.dst) = some d) (hs : tmps[d]? = some (ow e (.bool x))) : Region.wanted o (yielded ops tmps) = (e && !x) := by
  cases e
  · have hy : yielded ops tmps j = none := by unfold yielded; rw [hj]; simp only [Option.bind, hs]; rfl
    simp only [Region.wanted, hg, hy]; rfl
  · have hy : yielded ops tmps j = some x := by unfold yielded; rw [hj]; simp only [Option.bind, hs]; rfl
    simp only [Region.wanted, hg, hy]; cases x <;> rfl
end
section
variable {ρ : Operand → Value} {o : Oper} {w : World}
theorem ex_field {s : TypeId} {x : Operand} {b off f d : Nat} (ho : o.op = .fieldAddr s x f) (hx : ρ x = .pointer (some ⟨b, off, none⟩)) (hf : (Instr.fieldAt s (.pointer (some ⟨b, off, none⟩)) f).run Try.prog w = .ok (.pointer (some ⟨b, d, none⟩)) w) : (execOp ρ o).run Try.prog w = .ok (.value (.pointer (some ⟨b, d, none⟩))) w := by
  unfold execOp; rw [ho]; simp only [hx, Sem.run_bind, hf, Result.andThen_ok]; rfl
theorem ex_len {x : Operand} {a : Option Addr} {n c : Nat} {T ty : TypeId} (ho : o.op = .call { callee := .builtin .len, args := #[x], argTypes := #[T] }) (hty : o.type = ty) (hx : ρ x = .slice a n c) (hl : (Builtin.len_ #[T] ty #[.slice a n c]).run Try.prog w = .ok (.int .i64 n) w) : (execOp ρ o).run Try.prog w = .ok (.value (.int .i64 n)) w := by
  unfold execOp; rw [ho, hty]
  have hv : #[x].map ρ = #[.slice a n c] := by simp [hx]
  simp only [resolve, hv]
  go_simp
theorem len31 (a : Option Addr) (n c : Nat) : (Builtin.len_ #[31] 3 #[.slice a n c]).run Try.prog w = .ok (.int .i64 n) w := by go_simp
theorem len23 (a : Option Addr) (n c : Nat) : (Builtin.len_ #[23] 3 #[.slice a n c]).run Try.prog w = .ok (.int .i64 n) w := by go_simp
theorem len22 (a : Option Addr) (n c : Nat) : (Builtin.len_ #[22] 3 #[.slice a n c]).run Try.prog w = .ok (.int .i64 n) w := by go_simp
theorem ex_gtr {x y : Operand} {n m : Int} (ho : o.op = .binOp .gtr 3 x y 3) (hx : ρ x = .int .i64 n) (hy : ρ y = .int .i64 m) : (execOp ρ o).run Try.prog w = .ok (.value (.bool (decide (m < n)))) w := by
  unfold execOp; rw [ho]; simp only [hx, hy]
  go_simp
theorem ex_eqs {x y : Operand} {s u : ByteArray} (ho : o.op = .binOp .eql 9 x y 9) (hx : ρ x = .string s) (hy : ρ y = .string u) : (execOp ρ o).run Try.prog w = .ok (.value (.bool (s.toList == u.toList))) w := by
  unfold execOp; rw [ho]; simp only [hx, hy]
  go_simp
theorem ex_eqq {x y : Operand} {s u : ByteArray} {q : Bool} (hq : (s.toList == u.toList) = q) (ho : o.op = .binOp .eql 9 x y 9) (hx : ρ x = .string s) (hy : ρ y = .string u) : (execOp ρ o).run Try.prog w = .ok (.value (.bool q)) w := by
  rw [← hq]; exact ex_eqs ho hx hy
theorem ld22 {b k : Nat} {a : Option Addr} {n c : Nat} (h : w.cell? ⟨b, k, none⟩ = some (.slice a n c)) : (Instr.loadAt 22 (.pointer (some ⟨b, k, none⟩))).run Try.prog w = .ok (.slice a n c) w := by
  go_simp
theorem fa28 (b f : Nat) (hf : f < 5) : (Instr.fieldAt 28 (.pointer (some ⟨b, 0, none⟩)) f).run Try.prog w = .ok (.pointer (some ⟨b, f, none⟩)) w := by
  rcases f with _ | _ | _ | _ | _ | f
  all_goals first | omega | go_simp
theorem fa33 (b f : Nat) (hf : f < 8) : (Instr.fieldAt 33 (.pointer (some ⟨b, 0, none⟩)) f).run Try.prog w = .ok (.pointer (some ⟨b, f, none⟩)) w := by
  rcases f with _ | _ | _ | _ | _ | _ | _ | _ | f
  all_goals first | omega | go_simp
end
end Go.Proofs.Ytjjfhjelkioehaa
