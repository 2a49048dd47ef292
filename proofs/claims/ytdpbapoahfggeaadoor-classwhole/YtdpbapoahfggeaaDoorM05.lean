/- Cnd, FldA -/
import Derived.Test.YtdpbapoahfggeaaDoorM04
import Derived.Test.YtdpbapoahfggeaaDoorM01
import Derived.Deep.QuietTactic
import Derived.BigQuiet
/- A region in the text's order whose guards are Booleans that are letters: each operation by a law, both ways at once: nothing is parted. -/
namespace Go.Proofs.YtdpbapoahfggeaaDoor
open Go.ChangeShapes Go.WideShapes Go.ChangeAt Go.RowKit
set_option linter.unusedVariables false
set_option linter.unusedSimpArgs false

/-- A value, where it was wanted; none, where it wasn't. -/
def ow (e : Bool) (v : Value) : Value := bif e then v else undef
theorem ow_t {e : Bool} {v x : Value} (hx : x = ow e v) (h : e = true) : x = v := by rw [hx, h]; rfl

section
variable {ops : Array Oper} {Q : Exit → Act → World → Prop} {o : Oper} {rest : List Oper} {a : Act} {w : World}

theorem wl_plain (v : Value) (hg : o.guard = none) (hr : (execOp a.eval o).run Tryd.prog w = .ok (.value v) w) (h : wpList Tryd.prog ops Q rest (a.put o.dst v) w) : wpList Tryd.prog ops Q (o :: rest) a w := by
  refine wpList_plain hg fun K hK => ?_
  unfold Oper.wp
  rw [hr]
  exact hK _ _ h

theorem wl_if (e : Bool) (v : Value) (hw : Region.wanted o (yielded ops a.tmps) = e) (hr : e = true → (execOp a.eval o).run Tryd.prog w = .ok (.value v) w)
    (h : wpList Tryd.prog ops Q rest (a.put o.dst (ow e v)) w) : wpList Tryd.prog ops Q (o :: rest) a w := by
  refine wpList_step fun K hK => ?_
  rw [hw]
  cases e
  · simp only [Bool.false_eq_true, if_false]
    exact hK _ _ h
  · simp only [if_true]
    unfold Oper.wp
    rw [hr rfl]
    exact hK _ _ h

theorem exec_call (f : Nat) (ef : ∀ args w, (callFunc f args).run Tryd.prog w = .ok (.enter f args) w) (xs : Array Operand) (ts : Array TypeId) (ho : o.op = .call { callee := .value (.func f), args := xs, argTypes := ts }) (vs : Array Value) (hv : xs.map a.eval = vs) :
    (execOp a.eval o).run Tryd.prog w = .ok (.enter f vs) w := by
  unfold execOp
  have e : a.eval (.func f) = .func (.func f) #[] #[] := rfl
  simp only [ho, resolve, hv, e, Deferred.ofValue, invoke, Sem.run_bind, Sem.run_pure, Result.andThen_ok, Array.append_empty, ef]
  simp

/-- A call that only reckons. -/
theorem wl_call (f : Nat) (ef : ∀ args w, (callFunc f args).run Tryd.prog w = .ok (.enter f args) w) (xs : Array Operand) (ts : Array TypeId) (vs : Array Value) (e : Bool) (v : Value)
    (ho : o.op = .call { callee := .value (.func f), args := xs, argTypes := ts }) (hw : Region.wanted o (yielded ops a.tmps) = e) (hv : e = true → xs.map a.eval = vs)
    (C : Calls Tryd.prog f vs w fun x w' => x = .returned v ∧ w' = w)
    (h : wpList Tryd.prog ops Q rest (a.put o.dst (ow e v)) w) : wpList Tryd.prog ops Q (o :: rest) a w := by
  refine wpList_step fun K hK => ?_
  rw [hw]
  cases e
  · simp only [Bool.false_eq_true, if_false]
    exact hK _ _ h
  · simp only [if_true]
    unfold Oper.wp
    rw [exec_call f ef xs ts ho vs (hv rfl), Oper.upon_enter]
    refine C.mono ?_
    rintro x w' ⟨rfl, rfl⟩
    exact hK _ _ h

/-- A call that makes memory of its own. -/
theorem wl_callB (f : Nat) (ef : ∀ args w, (callFunc f args).run Tryd.prog w = .ok (.enter f args) w) (xs : Array Operand) (ts : Array TypeId) (vs : Array Value) (e : Bool) (v : Value)
    (ho : o.op = .call { callee := .value (.func f), args := xs, argTypes := ts }) (hw : Region.wanted o (yielded ops a.tmps) = e) (hv : e = true → xs.map a.eval = vs)
    (C : e = true → Calls Tryd.prog f vs w fun x w' => x = .returned v ∧ Below w.heap.size w w')
    (h : ∀ w', Below w.heap.size w w' → wpList Tryd.prog ops Q rest (a.put o.dst (ow e v)) w') : wpList Tryd.prog ops Q (o :: rest) a w := by
  refine wpList_step fun K hK => ?_
  rw [hw]
  cases e
  · simp only [Bool.false_eq_true, if_false]
    exact hK _ _ (h w (Below.refl _ _))
  · simp only [if_true]
    unfold Oper.wp
    rw [exec_call f ef xs ts ho vs (hv rfl), Oper.upon_enter]
    refine (C rfl).mono ?_
    rintro x w' ⟨rfl, hb⟩
    exact hK _ _ (h w' hb)
end

section
variable {ρ : Operand → Value} {o : Oper} {w : World}
theorem ex_move {x : Operand} {v : Value} (ho : o.op = .move x) (hx : ρ x = v) : (execOp ρ o).run Tryd.prog w = .ok (.value v) w := by unfold execOp; rw [ho, ← hx]; rfl
theorem ex_not {x : Operand} {t : TypeId} {b : Bool} (ho : o.op = .unOp .not t x) (hx : ρ x = .bool b) : (execOp ρ o).run Tryd.prog w = .ok (.value (.bool (!b))) w := by
  unfold execOp; rw [ho]; simp only [hx]; rfl
theorem ex_and {x y z : Operand} {b c : Bool} (ho : o.op = .pick x y z) (hx : ρ x = .bool b) (hy : b = true → ρ y = .bool c) (hz : ρ z = .bool false) : (execOp ρ o).run Tryd.prog w = .ok (.value (.bool (b && c))) w := by
  unfold execOp; rw [ho]; simp only [hx]
  cases b
  · simp only [hz]; rfl
  · simp only [hy rfl]; rfl
theorem ex_or {x y z : Operand} {b c : Bool} (ho : o.op = .pick x y z) (hx : ρ x = .bool b) (hy : b = false → ρ z = .bool c) (hz : ρ y = .bool true) : (execOp ρ o).run Tryd.prog w = .ok (.value (.bool (b || c))) w := by
  unfold execOp; rw [ho]; simp only [hx]
  cases b
  · simp only [hy rfl]; rfl
  · simp only [hz]; rfl
theorem ex_load1 {x : Operand} {t : TypeId} {p : Nat × Nat} {v : Value} (ho : o.op = .load t x) (hx : ρ x = .pointer (some ⟨p.1, p.2, none⟩)) (hl : (Instr.loadAt t (.pointer (some ⟨p.1, p.2, none⟩))).run Tryd.prog w = .ok v w) : (execOp ρ o).run Tryd.prog w = .ok (.value v) w := by
  unfold execOp; rw [ho]; simp only [hx, Sem.run_bind, hl, Result.andThen_ok]; rfl
theorem ld3 {b k : Nat} {n : Int} (h : w.cell? ⟨b, k, none⟩ = some (.int .i64 n)) : (Instr.loadAt 3 (.pointer (some ⟨b, k, none⟩))).run Tryd.prog w = .ok (.int .i64 n) w := by
  go_simp
theorem ld31 {b k : Nat} {a : Option Addr} {n c : Nat} (h : w.cell? ⟨b, k, none⟩ = some (.slice a n c)) : (Instr.loadAt 56 (.pointer (some ⟨b, k, none⟩))).run Tryd.prog w = .ok (.slice a n c) w := by
  go_simp
theorem ex_neq0 {x y : Operand} {n m : Int} (ho : o.op = .binOp .neq 3 x y 3) (hx : ρ x = .int .i64 n) (hy : ρ y = .int .i64 m) : (execOp ρ o).run Tryd.prog w = .ok (.value (.bool (n != m))) w := by
  unfold execOp; rw [ho]; simp only [hx, hy]
  go_simp
end

theorem ow_true (v : Value) : ow true v = v := rfl
theorem args2 {a : Act} {x y : Operand} {v u : Value} (h : a.eval x = v) (k : a.eval y = u) : #[x, y].map a.eval = #[v, u] := by simp [h, k]
theorem wn_n {ops : Array Oper} {o : Oper} {tmps : Array Value} (hg : o.guard = none) : Region.wanted o (yielded ops tmps) = true := by simp [Region.wanted, hg]
theorem and_i {a b : Bool} (h : a = true) (k : b = true) : (a && b) = true := by rw [h, k]; rfl
theorem not_f {a : Bool} (h : a = false) : (!a) = true := by rw [h]; rfl
section
variable {ops : Array Oper} {o : Oper} {tmps : Array Value} {j d : Nat} {e x : Bool}
theorem wn_t (hg : o.guard = some (j, true)) (hj : (ops[j]?).bind (·.dst) = some d) (hs : tmps[d]? = some (.bool x)) : Region.wanted o (yielded ops tmps) = x := by
  have hy : yielded ops tmps j = some x := by unfold yielded; rw [hj]; simp only [Option.bind, hs]
  simp only [Region.wanted, hg, hy]; cases x <;> rfl
theorem wn_f (hg : o.guard = some (j, false)) (hj : (ops[j]?).bind (·.dst) = some d) (hs : tmps[d]? = some (.bool x)) : Region.wanted o (yielded ops tmps) = !x := by
  have hy : yielded ops tmps j = some x := by unfold yielded; rw [hj]; simp only [Option.bind, hs]
  simp only [Region.wanted, hg, hy]; cases x <;> rfl
theorem wo_t (hg : o.guard = some (j, true)) (hj : (ops[j]?).bind (·.dst) = some d) (hs : tmps[d]? = some (ow e (.bool x))) : Region.wanted o (yielded ops tmps) = (e && x) := by
  cases e
  · have hy : yielded ops tmps j = none := by unfold yielded; rw [hj]; simp only [Option.bind, hs]; rfl
    simp only [Region.wanted, hg, hy]; rfl
  · have hy : yielded ops tmps j = some x := by unfold yielded; rw [hj]; simp only [Option.bind, hs]; rfl
    simp only [Region.wanted, hg, hy]; cases x <;> rfl
end
section
variable {ρ : Operand → Value} {o : Oper} {w : World}
theorem ex_field {s : TypeId} {x : Operand} {b off f d : Nat} (ho : o.op = .fieldAddr s x f) (hx : ρ x = .pointer (some ⟨b, off, none⟩)) (hf : (Instr.fieldAt s (.pointer (some ⟨b, off, none⟩)) f).run Tryd.prog w = .ok (.pointer (some ⟨b, d, none⟩)) w) : (execOp ρ o).run Tryd.prog w = .ok (.value (.pointer (some ⟨b, d, none⟩))) w := by
  unfold execOp; rw [ho]; simp only [hx, Sem.run_bind, hf, Result.andThen_ok]; rfl
theorem ex_len {x : Operand} {a : Option Addr} {n c : Nat} {T ty : TypeId} (ho : o.op = .call { callee := .builtin .len, args := #[x], argTypes := #[T] }) (hty : o.type = ty) (hx : ρ x = .slice a n c) (hl : (Builtin.len_ #[T] ty #[.slice a n c]).run Tryd.prog w = .ok (.int .i64 n) w) : (execOp ρ o).run Tryd.prog w = .ok (.value (.int .i64 n)) w := by
  unfold execOp; rw [ho, hty]
  have hv : #[x].map ρ = #[.slice a n c] := by simp [hx]
  simp only [resolve, hv]
  go_simp
theorem len31 (a : Option Addr) (n c : Nat) : (Builtin.len_ #[56] 3 #[.slice a n c]).run Tryd.prog w = .ok (.int .i64 n) w := by go_simp
theorem len22 (a : Option Addr) (n c : Nat) : (Builtin.len_ #[35] 3 #[.slice a n c]).run Tryd.prog w = .ok (.int .i64 n) w := by go_simp
theorem ex_gtr {x y : Operand} {n m : Int} (ho : o.op = .binOp .gtr 3 x y 3) (hx : ρ x = .int .i64 n) (hy : ρ y = .int .i64 m) : (execOp ρ o).run Tryd.prog w = .ok (.value (.bool (decide (m < n)))) w := by
  unfold execOp; rw [ho]; simp only [hx, hy]
  go_simp
theorem ex_eqs {x y : Operand} {s u : ByteArray} (ho : o.op = .binOp .eql 9 x y 9) (hx : ρ x = .string s) (hy : ρ y = .string u) : (execOp ρ o).run Tryd.prog w = .ok (.value (.bool (s.toList == u.toList))) w := by
  unfold execOp; rw [ho]; simp only [hx, hy]
  go_simp
theorem ex_eqq {x y : Operand} {s u : ByteArray} {q : Bool} (hq : (s.toList == u.toList) = q) (ho : o.op = .binOp .eql 9 x y 9) (hx : ρ x = .string s) (hy : ρ y = .string u) : (execOp ρ o).run Tryd.prog w = .ok (.value (.bool q)) w := by
  rw [← hq]; exact ex_eqs ho hx hy
theorem ld22 {b k : Nat} {a : Option Addr} {n c : Nat} (h : w.cell? ⟨b, k, none⟩ = some (.slice a n c)) : (Instr.loadAt 35 (.pointer (some ⟨b, k, none⟩))).run Tryd.prog w = .ok (.slice a n c) w := by
  go_simp
theorem fa28 (b f : Nat) (hf : f < 5) : (Instr.fieldAt 41 (.pointer (some ⟨b, 0, none⟩)) f).run Tryd.prog w = .ok (.pointer (some ⟨b, f, none⟩)) w := by
  rcases f with _ | _ | _ | _ | _ | f
  all_goals first | omega | go_simp
theorem fa33 (b f : Nat) (hf : f < 8) : (Instr.fieldAt 58 (.pointer (some ⟨b, 0, none⟩)) f).run Tryd.prog w = .ok (.pointer (some ⟨b, f, none⟩)) w := by
  rcases f with _ | _ | _ | _ | _ | _ | _ | _ | f
  all_goals first | omega | go_simp
end
end Go.Proofs.YtdpbapoahfggeaaDoor
/- Contracts of fieldsCanBe's closures. -/
namespace Go.Proofs.YtdpbapoahfggeaaDoor
open Go.ChangeShapes Go.WideShapes Go.ChangeAt Go.RowKit
set_option linter.unusedVariables false
set_option linter.unusedSimpArgs false

theorem nine {w : World} {b : Nat} {v0 v1 v2 v3 v4 v5 v6 v7 v8 : Value} (h : BoxAt w b [v0, v1, v2, v3, v4, v5, v6, v7, v8]) :
    w.cell? ⟨b, 0, none⟩ = some v0 ∧ w.cell? ⟨b, 1, none⟩ = some v1 ∧ w.cell? ⟨b, 2, none⟩ = some v2 ∧ w.cell? ⟨b, 3, none⟩ = some v3 ∧ w.cell? ⟨b, 4, none⟩ = some v4 ∧ w.cell? ⟨b, 5, none⟩ = some v5 ∧ w.cell? ⟨b, 6, none⟩ = some v6 ∧ w.cell? ⟨b, 7, none⟩ = some v7 ∧ w.cell? ⟨b, 8, none⟩ = some v8 :=
  ⟨h.2 0 _ rfl, h.2 1 _ rfl, h.2 2 _ rfl, h.2 3 _ rfl, h.2 4 _ rfl, h.2 5 _ rfl, h.2 6 _ rfl, h.2 7 _ rfl, h.2 8 _ rfl⟩

theorem ten {w : World} {b bp : Nat} {v0 v1 v2 v3 v4 v5 v6 v7 v8 u : Value} (h : BoxAt w b [v0, v1, v2, v3, v4, v5, v6, v7, v8]) (k : BoxAt w bp [u]) :
    w.cell? ⟨b, 0, none⟩ = some v0 ∧ w.cell? ⟨b, 1, none⟩ = some v1 ∧ w.cell? ⟨b, 2, none⟩ = some v2 ∧ w.cell? ⟨b, 3, none⟩ = some v3 ∧ w.cell? ⟨b, 4, none⟩ = some v4 ∧ w.cell? ⟨b, 5, none⟩ = some v5 ∧ w.cell? ⟨b, 6, none⟩ = some v6 ∧ w.cell? ⟨b, 7, none⟩ = some v7 ∧ w.cell? ⟨b, 8, none⟩ = some v8 ∧ w.cell? ⟨bp, 0, none⟩ = some u :=
  ⟨h.2 0 _ rfl, h.2 1 _ rfl, h.2 2 _ rfl, h.2 3 _ rfl, h.2 4 _ rfl, h.2 5 _ rfl, h.2 6 _ rfl, h.2 7 _ rfl, h.2 8 _ rfl, k.2 0 _ rfl⟩
theorem below_drewN {w0 w : World} (h : Below w0.heap.size w0 w) (n : Nat) : Below w0.heap.size w0 (w.drewN n) := ⟨h.os, h.tape, h.output, h.size, h.block⟩

set_option maxHeartbeats 1000000 in
theorem slotOk_any (b : Nat) (n : Int) (a5 : Option Addr) (n5 p5 : Nat) (rv gv tv ev cv tv5 dv mv : Value) (w : World) (hb : BoxAt w b [rv, gv, tv, ev, cv, tv5, .slice a5 n5 p5, dv, mv]) :
    Calls Tryd.prog 76 #[.int .i64 n, .pointer (some ⟨b, 0, none⟩)] w fun e w' => e = .returned (.bool (isIn n n5)) ∧ Below w.heap.size w w' := by
  have c6 := hb.2 6 _ rfl
  have C := hid (fun W => place59_any n a5 n5 p5 W)
  clear hb
  go_enter Tryd.func76, Tryd.ntmps76
  go_wp2_with (go_at_call 77; refine Calls.mono (C.out _) ?_; rintro e w' ⟨rfl, rfl⟩)
  go_ret
  exact ⟨rfl, Below.refl _ _⟩

set_option maxHeartbeats 1000000 in
theorem recOk_any (b : Nat) (n : Int) (a0 : Option Addr) (n0 p0 : Nat) (gv tv ev cv tv5 sv dv mv : Value) (w : World) (hb : BoxAt w b [.slice a0 n0 p0, gv, tv, ev, cv, tv5, sv, dv, mv]) :
    Calls Tryd.prog 78 #[.int .i64 n, .pointer (some ⟨b, 0, none⟩)] w fun e w' => e = .returned (.bool (isIn n n0)) ∧ Below w.heap.size w w' := by
  have c0 := hb.2 0 _ rfl
  have C := hid (fun W => place46_any n a0 n0 p0 W)
  clear hb
  go_enter Tryd.func78, Tryd.ntmps78
  go_wp2_with (go_at_call 63; refine Calls.mono (C.out _) ?_; rintro e w' ⟨rfl, rfl⟩)
  go_ret
  exact ⟨rfl, Below.refl _ _⟩

set_option maxRecDepth 100000 in
set_option maxHeartbeats 1000000 in
theorem target_any (b bp : Nat) (th n pl : Int) (a0 : Option Addr) (n0 p0 : Nat) (a1 : Option Addr) (n1 p1 : Nat) (a2 : Option Addr) (n2 p2 : Nat) (a3 : Option Addr) (n3 p3 : Nat) (a4 : Option Addr) (n4 p4 : Nat) (a5 : Option Addr) (n5 p5 : Nat) (a6 : Option Addr) (n6 p6 : Nat) (most : Int) (l : List Sec) (w : World)
    (hc : Secs w (.slice a4 n4 p4) l) (hn : l.length ≤ 1000000)
    (hb : BoxAt w b [.slice a0 n0 p0, .slice a1 n1 p1, .slice a2 n2 p2, .slice a3 n3 p3, .slice a4 n4 p4, .int .i64 th, .slice a5 n5 p5, .slice a6 n6 p6, .int .i64 most]) (hp : BoxAt w bp [.int .i64 pl]) :
    Calls Tryd.prog 79 #[.int .i64 n, .pointer (some ⟨b, 0, none⟩), .pointer (some ⟨bp, 0, none⟩)] w fun e w' => e = .returned (.bool (tgtB l th n6 pl n)) ∧ Below w.heap.size w w' := by
  have C48 := fun W => place48_any n a6 n6 p6 W
  have hlt := hb.1
  have hlp := hp.1
  have z9 := nine hb
  obtain ⟨c0, c1, c2, c3, c4, c5, c6, c7, c8⟩ := z9
  have d0 := hp.2 0 _ rfl
  cases hi : isIn n n6
  · have F : Hid (tgtB l th n6 pl n = false) := hid (by unfold tgtB; rw [hi]; rfl)
    rw [hi] at C48
    replace C48 := hid C48
    clear hi hb hp hc
    go_enter Tryd.func79, Tryd.ntmps79
    go_wp2_with fail
    go_quiet ((go_at_call 65; exact Calls.quiet_of_same (C48.out _)))
    go_wp2
    go_ret
    refine ⟨retB F.out.symm, ?_⟩
    exact below_drewN (Below.refl _ _) nq
  · have F : Hid (tgtB l th n6 pl n = (inside l th n == inside l th pl)) := hid (by unfold tgtB; rw [hi]; rfl)
    have Cn := hid (fun W (h : Below w.heap.size w W) => section_any (.slice a0 n0 p0) (.slice a1 n1 p1) (.slice a2 n2 p2) (.slice a3 n3 p3) (.slice a4 n4 p4) (.slice a5 n5 p5) (.slice a6 n6 p6) (.int .i64 most) l th n W (Secs.kept hc h) hn)
    have Cp := hid (fun W (h : Below w.heap.size w W) => section_any (.slice a0 n0 p0) (.slice a1 n1 p1) (.slice a2 n2 p2) (.slice a3 n3 p3) (.slice a4 n4 p4) (.slice a5 n5 p5) (.slice a6 n6 p6) (.int .i64 most) l th pl W (Secs.kept hc h) hn)
    generalize inside l th n = s1 at *
    generalize inside l th pl = s2 at *
    rw [hi] at C48
    replace C48 := hid C48
    replace hb := hid hb
    replace hp := hid hp
    have B0 := hid (Below.refl w.heap.size w).drew
    clear hi hc
    go_enter Tryd.func79, Tryd.ntmps79
    go_wp2_with fail
    go_region_held3 (fun w' => w'.cell? ⟨b, 0, none⟩ = some (.slice a0 n0 p0) ∧ w'.cell? ⟨b, 1, none⟩ = some (.slice a1 n1 p1) ∧ w'.cell? ⟨b, 2, none⟩ = some (.slice a2 n2 p2) ∧ w'.cell? ⟨b, 3, none⟩ = some (.slice a3 n3 p3) ∧ w'.cell? ⟨b, 4, none⟩ = some (.slice a4 n4 p4) ∧ w'.cell? ⟨b, 5, none⟩ = some (.int .i64 th) ∧ w'.cell? ⟨b, 6, none⟩ = some (.slice a5 n5 p5) ∧ w'.cell? ⟨b, 7, none⟩ = some (.slice a6 n6 p6) ∧ w'.cell? ⟨b, 8, none⟩ = some (.int .i64 most) ∧ w'.cell? ⟨bp, 0, none⟩ = some (.int .i64 pl))
      (first | go_keep | exact hz.out)
      (first
        | (go_at_call 65; with_reducible refine Calls.mono (C48.out _) ?_; rintro e w0 ⟨rfl, rfl⟩)
        | (go_at_call 72; with_reducible refine Calls.mono (Cn.out _ B0.out) ?_; rintro e w1 ⟨rfl, hb1⟩; have B1 := hid (B0.out.trans (hb1.mono B0.out.size)); have hz := hid (ten (hb.out.kept B1.out) (hp.out.kept B1.out)))
        | (go_at_call 72; with_reducible refine Calls.mono (Cp.out _ B1.out) ?_; rintro e w2 ⟨rfl, hb2⟩; have B2 := hid (B1.out.trans (hb2.mono B1.out.size)); have hz := hid (ten (hb.out.kept B2.out) (hp.out.kept B2.out))))
    go_wp2
    go_ret
    exact ⟨retB F.out.symm, B2.out⟩
end Go.Proofs.YtdpbapoahfggeaaDoor
