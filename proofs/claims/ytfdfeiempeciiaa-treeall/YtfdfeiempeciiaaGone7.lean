/- Region 7 of gone: one statement, against the document's, in whatever order it is reckoned. Printed by wip/tools/mkgone7.py. -/
import Derived.Test.YtfdfeiempeciiaaJoinE
import Derived.Test.YtfdfeiempeciiaaFlatW
import Derived.Test.YtfdfeiempeciiaaFlatB
import Derived.Test.YtfdfeiempeciiaaRefStmts
import Derived.Test.YtfdfeiempeciiaaInRound
import Derived.Test.YtfdfeiempeciiaaLens
namespace Go.Proofs.Ytfdfeiempeciiaa
open Go.ChangeShapes Go.WideShapes Go.ChangeAt Go.RowKit Go.Shelf
set_option linter.unusedVariables false
attribute [local go_sem] Oper.semAt_some

theorem agg52y {s : St} : (Try.prog.info? 52).map (·.size) = some s.cells.length := s.agg.choose_spec.2.2
theorem step_callG {ops : Array Oper} {o : Oper} {a : Act} {w : World} {K : Act → World → Prop} {Q : Exit → Act → World → Prop} {E : Prop} (f : Nat) (ef : ∀ args w, (callFunc f args).run Try.prog w = .ok (.enter f args) w)
    (hw : Region.wanted o (yielded ops a.tmps) = true) (xs : Array Operand) (ts : Array TypeId) (ho : o.op = .call { callee := .value (.func f), args := xs, argTypes := ts }) (vs : List Value) (hv' : xs.toList.map a.eval = vs)
    {R : Value → World → Prop} (C : Calls Try.prog f vs.toArray w fun e w' => ∃ r, e = .returned r ∧ R r w') (h : ∀ r w', R r w' → K (a.put o.dst r) w') :
    if Region.wanted o (yielded ops a.tmps) = true then Oper.wp Try.prog o a w K Q else E := by
  rw [if_pos hw]
  unfold Oper.wp execOp
  have e : a.eval (.func f) = .func (.func f) #[] #[] := rfl
  have hv : xs.map a.eval = vs.toArray := by rw [← hv']; exact Array.ext' (by simp)
  simp only [ho, resolve, hv, e, Deferred.ofValue, invoke, Sem.run_bind, Sem.run_pure, Result.andThen_ok, Array.append_empty, ef]
  simp
  rw [Oper.upon_enter]
  refine C.mono ?_
  rintro e w' ⟨r, rfl, hR⟩
  exact h _ w' hR
theorem step_slice1 {ops : Array Oper} {o : Oper} {a : Act} {w : World} {K : Act → World → Prop} {Q : Exit → Act → World → Prop} {E : Prop} (hw : Region.wanted o (yielded ops a.tmps) = true) (x : Operand) (ho : o.op = .buildSlice 35 1 #[(0, x)]) (s : St) (hx : a.eval x = .agg s.cells.toArray)
    (h : K (a.put o.dst (.slice (some ⟨w.heap.size, 0, none⟩) 1 1)) (w.alloc (.cells s.cells.toArray 52))) :
    if Region.wanted o (yielded ops a.tmps) = true then Oper.wp Try.prog o a w K Q else E := by
  rw [if_pos hw]
  obtain ⟨i, hi, z0, z1, z2⟩ := info_parts info52
  have hr := run_slice1 35 52 i _ 58 Try.underlying35 hi z0 z1 (by omega) (by omega) s.cells s.len w
  unfold Oper.wp execOp
  simp [ho, hx, hr, Result.andThen]
  simpa [Oper.upon] using h
theorem nd_of (ops : Array Oper) (h : ops.toList.all (fun o => match o.op with | .defer _ => false | _ => true) = true) : ∀ (i : Nat) (o : Oper), ops[i]? = some o → ∀ c, o.op ≠ .defer c := fun i o ho c hc => by
  have hm : o ∈ ops.toList := by
    rw [← Array.getElem?_toList] at ho
    exact List.mem_of_getElem? ho
  have := List.all_eq_true.1 h o hm
  rw [hc] at this
  simp at this
theorem rowT1_bare {s t : St} (h : s.bare = t.bare) : rowT [s] = rowT [t] := by
  rw [← rowT_bare [s], ← rowT_bare [t]]
  simp [h]
theorem sts_one1 (w : World) (s : St) (h : s.ok w (fun _ => True)) : stsOk (w.alloc (.cells s.cells.toArray 52)) (fun _ => True) (.slice (some ⟨w.heap.size, 0, none⟩) 1 1) [s] := by
  refine ⟨?_, fun k hk => ?_⟩
  · have := RowAt.made w s.cells 52 (fun _ => True) trivial 58 s.len
    simpa using this
  · simp at hk
    subst hk
    exact h.kept ((Below.refl _ _).alloc (Nat.le_refl _) _)

set_option maxRecDepth 100000 in
set_option maxHeartbeats 2000000 in
theorem gone7 {Q : Exit → Act → World → Prop} {n lp : Nat} (W : World) (b6 b7 b8 b10 g1 g2 k n1 n2 c1 c2 : Nat) (d : Int) (s t : St) (u0 u1 u2 u3 u4 u5 u11 u12 u13 u14 u15 u16 u17 u18 u19 u20 u21 u22 u23 u24 u25 u26 u27 u28 u29 u30 u31 u32 u33 u34 u35 u36 u37 u38 u39 u40 u41 u42 u43 u44 u45 u46 u47 u48 u49 u50 u51 u52 u53 u54 u55 u56 u57 u58 : Value)
    (h6 : VarAt W b6 [.slice (some ⟨g1, 0, none⟩) n1 c1] 35) (h7 : VarAt W b7 [.slice (some ⟨g2, 0, none⟩) n2 c2] 22) (h8 : VarAt W b8 [.int .i64 k] 3) (h10 : VarAt W b10 s.cells 52) (hk1 : k < n1) (hk2 : k < n2) (hn1 : n1 < 140737488355328)
    (hd : W.cell? ⟨g2, k, none⟩ = some (.int .i64 d)) (hr : W.rangeAt g1 (k * 58) t.cells) (so : s.ok W (fun _ => True)) (to' : t.ok W (fun _ => True)) (hb : s.bare = t.bare) (hs : (rowT [s]).length ≤ 2000000) (hQo : ¬ LetsOut Q) (hQp : ∀ c a a' w, Q (.panic c) a w → Q (.panic c) a' w)
    (h : ∀ (x23 x24 x25 x26 x27 x28 x29 x30 x31 x32 x33 x34 x35 x36 x37 x38 x39 x40 x41 x42 x43 x44 x45 x46 : Value) (X : World), Below W.heap.size W X → Q .normal { tmps := (u0 :: u1 :: u2 :: u3 :: u4 :: u5 :: .pointer (some ⟨b6, 0, none⟩) :: .pointer (some ⟨b7, 0, none⟩) :: .pointer (some ⟨b8, 0, none⟩) :: .int .i64 d :: .pointer (some ⟨b10, 0, none⟩) :: u11 :: u12 :: u13 :: u14 :: u15 :: u16 :: u17 :: u18 :: u19 :: u20 :: u21 :: u22 :: x23 :: x24 :: x25 :: x26 :: x27 :: x28 :: x29 :: x30 :: x31 :: x32 :: x33 :: x34 :: x35 :: x36 :: x37 :: x38 :: x39 :: x40 :: x41 :: x42 :: x43 :: x44 :: x45 :: x46 :: .bool false :: u48 :: u49 :: u50 :: u51 :: u52 :: u53 :: u54 :: u55 :: u56 :: u57 :: u58 :: []).toArray, defers := [] } X) :
    (Code.region 7 #[{ dst := some 23, op := Op.load 3 (Operand.tmp 8), type := 3, pos := "law.go:54", after := #[], guard := none }, { dst := some 24, op := Op.load 35 (Operand.tmp 6), type := 35, pos := "law.go:54", after := #[], guard := none }, { dst := some 25, op := Op.call { callee := Callee.builtin Builtin.len, args := #[Operand.tmp 24], argTypes := #[35] }, type := 3, pos := "law.go:54", after := #[{ on := 1, ground := Ground.data }], guard := none }, { dst := some 26, op := Op.binOp BinOp.geq 3 (Operand.tmp 23) (Operand.tmp 25) 3, type := 4, pos := "law.go:54", after := #[{ on := 0, ground := Ground.data }, { on := 2, ground := Ground.data }], guard := none }, { dst := some 27, op := Op.move (Operand.tmp 26), type := 4, pos := "law.go:54", after := #[{ on := 3, ground := Ground.data }], guard := none }, { dst := some 28, op := Op.move (Operand.tmp 9), type := 3, pos := "law.go:54", after := #[{ on := 4, ground := Ground.guard }], guard := some (4, false) }, { dst := some 29, op := Op.load 22 (Operand.tmp 7), type := 22, pos := "law.go:54", after := #[{ on := 4, ground := Ground.guard }], guard := some (4, false) }, { dst := some 30, op := Op.load 3 (Operand.tmp 8), type := 3, pos := "law.go:54", after := #[{ on := 4, ground := Ground.guard }], guard := some (4, false) }, { dst := some 31, op := Op.indexAddr 22 (Operand.tmp 29) (Operand.tmp 30), type := 0, pos := "law.go:54", after := #[{ on := 6, ground := Ground.data }, { on := 7, ground := Ground.data }, { on := 4, ground := Ground.guard }], guard := some (4, false) }, { dst := some 32, op := Op.load 3 (Operand.tmp 31), type := 3, pos := "law.go:54", after := #[{ on := 8, ground := Ground.data }, { on := 4, ground := Ground.guard }], guard := some (4, false) }, { dst := some 33, op := Op.binOp BinOp.neq 3 (Operand.tmp 28) (Operand.tmp 32) 3, type := 4, pos := "law.go:54", after := #[{ on := 5, ground := Ground.data }, { on := 9, ground := Ground.data }, { on := 4, ground := Ground.guard }], guard := some (4, false) }, { dst := some 34, op := Op.pick (Operand.tmp 27) (Operand.const (Value.bool true)) (Operand.tmp 33), type := 4, pos := "law.go:54", after := #[{ on := 4, ground := Ground.data }, { on := 10, ground := Ground.data }], guard := none }, { dst := some 35, op := Op.move (Operand.tmp 34), type := 4, pos := "law.go:54", after := #[{ on := 11, ground := Ground.data }, { on := 4, ground := Ground.chain }], guard := none }, { dst := some 36, op := Op.load 52 (Operand.tmp 10), type := 52, pos := "law.go:54", after := #[{ on := 12, ground := Ground.guard }], guard := some (12, false) }, { dst := some 37, op := Op.buildSlice 35 1 #[(0, Operand.tmp 36)], type := 35, pos := "law.go:54", after := #[{ on := 13, ground := Ground.data }, { on := 12, ground := Ground.guard }], guard := some (12, false) }, { dst := some 38, op := Op.call { callee := Callee.value (Operand.func 13), args := #[Operand.tmp 37], argTypes := #[35] }, type := 33, pos := "law.go:54", after := #[{ on := 14, ground := Ground.data }, { on := 12, ground := Ground.chain }, { on := 12, ground := Ground.guard }], guard := some (12, false) }, { dst := some 39, op := Op.load 35 (Operand.tmp 6), type := 35, pos := "law.go:54", after := #[{ on := 12, ground := Ground.guard }], guard := some (12, false) }, { dst := some 40, op := Op.load 3 (Operand.tmp 8), type := 3, pos := "law.go:54", after := #[{ on := 12, ground := Ground.guard }], guard := some (12, false) }, { dst := some 41, op := Op.indexAddr 35 (Operand.tmp 39) (Operand.tmp 40), type := 0, pos := "law.go:54", after := #[{ on := 16, ground := Ground.data }, { on := 17, ground := Ground.data }, { on := 12, ground := Ground.guard }], guard := some (12, false) }, { dst := some 42, op := Op.load 52 (Operand.tmp 41), type := 52, pos := "law.go:54", after := #[{ on := 18, ground := Ground.data }, { on := 12, ground := Ground.guard }], guard := some (12, false) }, { dst := some 43, op := Op.buildSlice 35 1 #[(0, Operand.tmp 42)], type := 35, pos := "law.go:54", after := #[{ on := 19, ground := Ground.data }, { on := 12, ground := Ground.guard }], guard := some (12, false) }, { dst := some 44, op := Op.call { callee := Callee.value (Operand.func 13), args := #[Operand.tmp 43], argTypes := #[35] }, type := 33, pos := "law.go:54", after := #[{ on := 20, ground := Ground.data }, { on := 15, ground := Ground.chain }, { on := 12, ground := Ground.guard }], guard := some (12, false) }, { dst := some 45, op := Op.call { callee := Callee.value (Operand.func 10), args := #[Operand.tmp 38, Operand.tmp 44], argTypes := #[33, 33] }, type := 4, pos := "law.go:54", after := #[{ on := 15, ground := Ground.data }, { on := 21, ground := Ground.data }, { on := 21, ground := Ground.chain }, { on := 12, ground := Ground.guard }], guard := some (12, false) }, { dst := some 46, op := Op.unOp UnOp.not 4 (Operand.tmp 45), type := 4, pos := "law.go:54", after := #[{ on := 22, ground := Ground.data }, { on := 12, ground := Ground.guard }], guard := some (12, false) }, { dst := some 47, op := Op.pick (Operand.tmp 35) (Operand.const (Value.bool true)) (Operand.tmp 46), type := 4, pos := "law.go:54", after := #[{ on := 12, ground := Ground.data }, { on := 23, ground := Ground.data }], guard := none }] true).wpIn (Fence.wide.inRound lp) n Try.prog Q { tmps := (u0 :: u1 :: u2 :: u3 :: u4 :: u5 :: .pointer (some ⟨b6, 0, none⟩) :: .pointer (some ⟨b7, 0, none⟩) :: .pointer (some ⟨b8, 0, none⟩) :: .int .i64 d :: .pointer (some ⟨b10, 0, none⟩) :: u11 :: u12 :: u13 :: u14 :: u15 :: u16 :: u17 :: u18 :: u19 :: u20 :: u21 :: u22 :: u23 :: u24 :: u25 :: u26 :: u27 :: u28 :: u29 :: u30 :: u31 :: u32 :: u33 :: u34 :: u35 :: u36 :: u37 :: u38 :: u39 :: u40 :: u41 :: u42 :: u43 :: u44 :: u45 :: u46 :: u47 :: u48 :: u49 :: u50 :: u51 :: u52 :: u53 :: u54 :: u55 :: u56 :: u57 :: u58 :: []).toArray, defers := [] } W := by
  have hS : Hid (∀ X : World, Below W.heap.size W X → (fun X : World => X.cell? ⟨b6, 0, none⟩ = some (.slice (some ⟨g1, 0, none⟩) n1 c1) ∧ X.cell? ⟨b7, 0, none⟩ = some (.slice (some ⟨g2, 0, none⟩) n2 c2) ∧ X.cell? ⟨b8, 0, none⟩ = some (.int .i64 k) ∧ X.cell? ⟨g2, k, none⟩ = some (.int .i64 d) ∧ X.rangeAt g1 (k * 58) t.cells ∧ X.rangeAt b10 0 s.cells) X) := hid (fun X hb => ⟨(h6.kept hb).cell 0 rfl, (h7.kept hb).cell 0 rfl, (h8.kept hb).cell 0 rfl, (hb.cell (World.block_lt_of_cell? W _ hd)).trans hd, fun j v hv => (hb.cell (World.block_lt_of_cell? W _ (hr j v hv))).trans (hr j v hv), (h10.kept hb).range⟩)
  have hSo : Hid (∀ X : World, Below W.heap.size W X → stsOk (X.alloc (.cells s.cells.toArray 52)) (fun _ => True) (.slice (some ⟨X.heap.size, 0, none⟩) 1 1) [s]) := hid (fun X hb => sts_one1 X s (so.kept hb))
  have hTo : Hid (∀ X : World, Below W.heap.size W X → stsOk (X.alloc (.cells t.cells.toArray 52)) (fun _ => True) (.slice (some ⟨X.heap.size, 0, none⟩) 1 1) [t]) := hid (fun X hb => sts_one1 X t (to'.kept hb))
  have hQT : Hid (¬ LetsOut Q) := hid hQo
  have eT : Hid (rowT [s] = rowT [t]) := hid (rowT1_bare hb)
  replace hs := hid hs
  have bel : Hid (Below W.heap.size W W.drew) := hid ⟨rfl, rfl, rfl, Nat.le_refl _, fun _ _ => rfl⟩
  have ef13 : Hid (∀ args w, (callFunc 13 args).run Try.prog w = .ok (.enter 13 args) w) := hid (enters_of Try.func13 (by kernel_rfl) rfl)
  have ef10 : Hid (∀ args w, (callFunc 10 args).run Try.prog w = .ok (.enter 10 args) w) := hid (enters_of Try.func10 (by kernel_rfl) rfl)
  have C13 : Hid (∀ (v : Value) (x : St) (X : World), stsOk X (fun _ => True) v [x] → rowT [x] = rowT [s] → Calls Try.prog 13 #[v] X fun e X' => ∃ r, e = .returned r ∧ (strsAt X' (fun _ => True) r (rowT [s]) ∧ Below X.heap.size X X')) := hid (fun v x X h1 h2 => (refStmts_any [x] v X _ h1 (by rw [h2]; exact hs.out)).mono (fun e X' h3 => by
    obtain ⟨u, rfl, h4⟩ := h3
    rw [h2] at h4
    exact ⟨u, rfl, h4.row hs.out, h4.bel⟩))
  have C10 : Hid (∀ (v u : Value) (X : World), strsAt X (fun _ => True) v (rowT [s]) → strsAt X (fun _ => True) u (rowT [s]) → Calls Try.prog 10 #[v, u] X fun e X' => ∃ r, e = .returned r ∧ (r = .bool true ∧ Below X.heap.size X X')) := hid (fun v u X h1 h2 => (refSame_any _ _ v u X _ _ h1 h2).mono (fun e X' h3 => ⟨_, h3.1, by rw [sameT_refl], h3.2⟩))
  have al : Hid (∀ (X : World) (o : Obj), Below X.heap.size X (X.alloc o)) := hid (fun X o => (Below.refl _ _).alloc (Nat.le_refl _) _)
  have kI : ¬ ((k : Int) ≥ (n1 : Int)) := by omega
  have kd : decide ((n1 : Int) ≤ (k : Int)) = false := by rw [decide_eq_false_iff_not]; omega
  have k0 : (0 : Int) ≤ (k : Int) := by omega
  have k1 : (k : Int) < (n1 : Int) := by omega
  have k2 : (k : Int) < (n2 : Int) := by omega
  have hH := hS.out _ bel.out
  replace h := hid h
  clear h6 h7 h8 h10 hd hr so to' hb
  refine wpIn_round_held (S := (fun X : World => X.cell? ⟨b6, 0, none⟩ = some (.slice (some ⟨g1, 0, none⟩) n1 c1) ∧ X.cell? ⟨b7, 0, none⟩ = some (.slice (some ⟨g2, 0, none⟩) n2 c2) ∧ X.cell? ⟨b8, 0, none⟩ = some (.int .i64 k) ∧ X.cell? ⟨g2, k, none⟩ = some (.int .i64 d) ∧ X.rangeAt g1 (k * 58) t.cells ∧ X.rangeAt b10 0 s.cells)) (by kernel_rfl) ?nd hQT.out hH (fun hHeld => ?_)
  case nd => exact nd_of _ (by kernel_rfl)
  refine wpAnyH_take (i := 0) (oi := { dst := some 23, op := Op.load 3 (Operand.tmp 8), type := 3, pos := "law.go:54", after := #[], guard := none }) (v := ?_) rfl (by kernel_rfl) (by kernel_rfl) (by kernel_rfl) (fun c a w h => hQp c _ _ w h) (Or.inl ⟨by rfl, ?_⟩) hHeld ?_
  rotate_left
  · intro w0 hSw; obtain ⟨q6, q7, q8, qd, -, -⟩ := hSw; go_simp; (try with_reducible rfl)
  simp only [Act.put, List.setIfInBounds_toArray, List.set_cons_zero, List.set_cons_succ]
  refine wpAnyH_take (i := 1) (oi := { dst := some 24, op := Op.load 35 (Operand.tmp 6), type := 35, pos := "law.go:54", after := #[], guard := none }) (v := ?_) rfl (by kernel_rfl) (by kernel_rfl) (by kernel_rfl) (fun c a w h => hQp c _ _ w h) (Or.inl ⟨by rfl, ?_⟩) hHeld ?_
  rotate_left
  · intro w0 hSw; obtain ⟨q6, q7, q8, qd, -, -⟩ := hSw; go_simp; (try with_reducible rfl)
  simp only [Act.put, List.setIfInBounds_toArray, List.set_cons_zero, List.set_cons_succ]
  refine wpAnyH_take (i := 2) (oi := { dst := some 25, op := Op.call { callee := Callee.builtin Builtin.len, args := #[Operand.tmp 24], argTypes := #[35] }, type := 3, pos := "law.go:54", after := #[{ on := 1, ground := Ground.data }], guard := none }) (v := ?_) rfl (by kernel_rfl) (by kernel_rfl) (by kernel_rfl) (fun c a w h => hQp c _ _ w h) (Or.inl ⟨by rfl, ?_⟩) hHeld ?_
  rotate_left
  · intro w0 hSw; obtain ⟨q6, q7, q8, qd, -, -⟩ := hSw; go_simp; (try with_reducible rfl)
  simp only [Act.put, List.setIfInBounds_toArray, List.set_cons_zero, List.set_cons_succ]
  refine wpAnyH_take (i := 3) (oi := { dst := some 26, op := Op.binOp BinOp.geq 3 (Operand.tmp 23) (Operand.tmp 25) 3, type := 4, pos := "law.go:54", after := #[{ on := 0, ground := Ground.data }, { on := 2, ground := Ground.data }], guard := none }) (v := ?_) rfl (by kernel_rfl) (by kernel_rfl) (by kernel_rfl) (fun c a w h => hQp c _ _ w h) (Or.inl ⟨by rfl, ?_⟩) hHeld ?_
  rotate_left
  · intro w0 hSw; obtain ⟨q6, q7, q8, qd, -, -⟩ := hSw; go_simp; (try with_reducible rfl)
  simp only [Act.put, List.setIfInBounds_toArray, List.set_cons_zero, List.set_cons_succ]
  refine wpAnyH_take (i := 4) (oi := { dst := some 27, op := Op.move (Operand.tmp 26), type := 4, pos := "law.go:54", after := #[{ on := 3, ground := Ground.data }], guard := none }) (v := ?_) rfl (by kernel_rfl) (by kernel_rfl) (by kernel_rfl) (fun c a w h => hQp c _ _ w h) (Or.inl ⟨by rfl, ?_⟩) hHeld ?_
  rotate_left
  · intro w0 hSw; obtain ⟨q6, q7, q8, qd, -, -⟩ := hSw; go_simp; (try with_reducible rfl)
  simp only [Act.put, List.setIfInBounds_toArray, List.set_cons_zero, List.set_cons_succ]
  refine wpAnyH_take (i := 5) (oi := { dst := some 28, op := Op.move (Operand.tmp 9), type := 3, pos := "law.go:54", after := #[{ on := 4, ground := Ground.guard }], guard := some (4, false) }) (v := ?_) rfl (by kernel_rfl) (by kernel_rfl) (by kernel_rfl) (fun c a w h => hQp c _ _ w h) (Or.inl ⟨by rfl, ?_⟩) hHeld ?_
  rotate_left
  · intro w0 hSw; obtain ⟨q6, q7, q8, qd, -, -⟩ := hSw; go_simp; (try with_reducible rfl)
  simp only [Act.put, List.setIfInBounds_toArray, List.set_cons_zero, List.set_cons_succ]
  refine wpAnyH_take (i := 6) (oi := { dst := some 29, op := Op.load 22 (Operand.tmp 7), type := 22, pos := "law.go:54", after := #[{ on := 4, ground := Ground.guard }], guard := some (4, false) }) (v := ?_) rfl (by kernel_rfl) (by kernel_rfl) (by kernel_rfl) (fun c a w h => hQp c _ _ w h) (Or.inl ⟨by rfl, ?_⟩) hHeld ?_
  rotate_left
  · intro w0 hSw; obtain ⟨q6, q7, q8, qd, -, -⟩ := hSw; go_simp; (try with_reducible rfl)
  simp only [Act.put, List.setIfInBounds_toArray, List.set_cons_zero, List.set_cons_succ]
  refine wpAnyH_take (i := 7) (oi := { dst := some 30, op := Op.load 3 (Operand.tmp 8), type := 3, pos := "law.go:54", after := #[{ on := 4, ground := Ground.guard }], guard := some (4, false) }) (v := ?_) rfl (by kernel_rfl) (by kernel_rfl) (by kernel_rfl) (fun c a w h => hQp c _ _ w h) (Or.inl ⟨by rfl, ?_⟩) hHeld ?_
  rotate_left
  · intro w0 hSw; obtain ⟨q6, q7, q8, qd, -, -⟩ := hSw; go_simp; (try with_reducible rfl)
  simp only [Act.put, List.setIfInBounds_toArray, List.set_cons_zero, List.set_cons_succ]
  refine wpAnyH_take (i := 8) (oi := { dst := some 31, op := Op.indexAddr 22 (Operand.tmp 29) (Operand.tmp 30), type := 0, pos := "law.go:54", after := #[{ on := 6, ground := Ground.data }, { on := 7, ground := Ground.data }, { on := 4, ground := Ground.guard }], guard := some (4, false) }) (v := ?_) rfl (by kernel_rfl) (by kernel_rfl) (by kernel_rfl) (fun c a w h => hQp c _ _ w h) (Or.inl ⟨by rfl, ?_⟩) hHeld ?_
  rotate_left
  · intro w0 hSw; obtain ⟨q6, q7, q8, qd, -, -⟩ := hSw; go_simp; (try with_reducible rfl)
  simp only [Act.put, List.setIfInBounds_toArray, List.set_cons_zero, List.set_cons_succ]
  refine wpAnyH_take (i := 9) (oi := { dst := some 32, op := Op.load 3 (Operand.tmp 31), type := 3, pos := "law.go:54", after := #[{ on := 8, ground := Ground.data }, { on := 4, ground := Ground.guard }], guard := some (4, false) }) (v := ?_) rfl (by kernel_rfl) (by kernel_rfl) (by kernel_rfl) (fun c a w h => hQp c _ _ w h) (Or.inl ⟨by rfl, ?_⟩) hHeld ?_
  rotate_left
  · intro w0 hSw; obtain ⟨q6, q7, q8, qd, -, -⟩ := hSw; go_simp; (try with_reducible rfl)
  simp only [Act.put, List.setIfInBounds_toArray, List.set_cons_zero, List.set_cons_succ]
  refine wpAnyH_take (i := 10) (oi := { dst := some 33, op := Op.binOp BinOp.neq 3 (Operand.tmp 28) (Operand.tmp 32) 3, type := 4, pos := "law.go:54", after := #[{ on := 5, ground := Ground.data }, { on := 9, ground := Ground.data }, { on := 4, ground := Ground.guard }], guard := some (4, false) }) (v := ?_) rfl (by kernel_rfl) (by kernel_rfl) (by kernel_rfl) (fun c a w h => hQp c _ _ w h) (Or.inl ⟨by rfl, ?_⟩) hHeld ?_
  rotate_left
  · intro w0 hSw; obtain ⟨q6, q7, q8, qd, -, -⟩ := hSw; go_simp; (try with_reducible rfl)
  simp only [Act.put, List.setIfInBounds_toArray, List.set_cons_zero, List.set_cons_succ]
  refine wpAnyH_take (i := 11) (oi := { dst := some 34, op := Op.pick (Operand.tmp 27) (Operand.const (Value.bool true)) (Operand.tmp 33), type := 4, pos := "law.go:54", after := #[{ on := 4, ground := Ground.data }, { on := 10, ground := Ground.data }], guard := none }) (v := ?_) rfl (by kernel_rfl) (by kernel_rfl) (by kernel_rfl) (fun c a w h => hQp c _ _ w h) (Or.inl ⟨by rfl, ?_⟩) hHeld ?_
  rotate_left
  · intro w0 hSw; obtain ⟨q6, q7, q8, qd, -, -⟩ := hSw; go_simp; (try with_reducible rfl)
  simp only [Act.put, List.setIfInBounds_toArray, List.set_cons_zero, List.set_cons_succ]
  refine wpAnyH_take (i := 12) (oi := { dst := some 35, op := Op.move (Operand.tmp 34), type := 4, pos := "law.go:54", after := #[{ on := 11, ground := Ground.data }, { on := 4, ground := Ground.chain }], guard := none }) (v := ?_) rfl (by kernel_rfl) (by kernel_rfl) (by kernel_rfl) (fun c a w h => hQp c _ _ w h) (Or.inl ⟨by rfl, ?_⟩) hHeld ?_
  rotate_left
  · intro w0 hSw; obtain ⟨q6, q7, q8, qd, -, -⟩ := hSw; go_simp; (try with_reducible rfl)
  simp only [Act.put, List.setIfInBounds_toArray, List.set_cons_zero, List.set_cons_succ]
  refine wpAnyH_take (i := 13) (oi := { dst := some 36, op := Op.load 52 (Operand.tmp 10), type := 52, pos := "law.go:54", after := #[{ on := 12, ground := Ground.guard }], guard := some (12, false) }) rfl (by kernel_rfl) (by kernel_rfl) (by kernel_rfl) (fun c a w h => hQp c _ _ w h) (yieldsIf_load_mid (by rfl) 52 _ rfl b10 0 rfl s.cells _ (fun w0 hSw => hSw.2.2.2.2.2) Try.underlying52 rfl agg52y) hHeld ?_
  simp only [Act.put, List.setIfInBounds_toArray, List.set_cons_zero, List.set_cons_succ]
  refine wpAnyH_take (i := 16) (oi := { dst := some 39, op := Op.load 35 (Operand.tmp 6), type := 35, pos := "law.go:54", after := #[{ on := 12, ground := Ground.guard }], guard := some (12, false) }) (v := ?_) rfl (by kernel_rfl) (by kernel_rfl) (by kernel_rfl) (fun c a w h => hQp c _ _ w h) (Or.inl ⟨by rfl, ?_⟩) hHeld ?_
  rotate_left
  · intro w0 hSw; obtain ⟨q6, q7, q8, qd, -, -⟩ := hSw; go_simp; (try with_reducible rfl)
  simp only [Act.put, List.setIfInBounds_toArray, List.set_cons_zero, List.set_cons_succ]
  refine wpAnyH_take (i := 17) (oi := { dst := some 40, op := Op.load 3 (Operand.tmp 8), type := 3, pos := "law.go:54", after := #[{ on := 12, ground := Ground.guard }], guard := some (12, false) }) (v := ?_) rfl (by kernel_rfl) (by kernel_rfl) (by kernel_rfl) (fun c a w h => hQp c _ _ w h) (Or.inl ⟨by rfl, ?_⟩) hHeld ?_
  rotate_left
  · intro w0 hSw; obtain ⟨q6, q7, q8, qd, -, -⟩ := hSw; go_simp; (try with_reducible rfl)
  simp only [Act.put, List.setIfInBounds_toArray, List.set_cons_zero, List.set_cons_succ]
  refine wpAnyH_take (i := 18) (oi := { dst := some 41, op := Op.indexAddr 35 (Operand.tmp 39) (Operand.tmp 40), type := 0, pos := "law.go:54", after := #[{ on := 16, ground := Ground.data }, { on := 17, ground := Ground.data }, { on := 12, ground := Ground.guard }], guard := some (12, false) }) (v := ?_) rfl (by kernel_rfl) (by kernel_rfl) (by kernel_rfl) (fun c a w h => hQp c _ _ w h) (Or.inl ⟨by rfl, ?_⟩) hHeld ?_
  rotate_left
  · intro w0 hSw; obtain ⟨q6, q7, q8, qd, -, -⟩ := hSw; go_simp; (try with_reducible rfl)
  simp only [Act.put, List.setIfInBounds_toArray, List.set_cons_zero, List.set_cons_succ]
  refine wpAnyH_take (i := 19) (oi := { dst := some 42, op := Op.load 52 (Operand.tmp 41), type := 52, pos := "law.go:54", after := #[{ on := 18, ground := Ground.data }, { on := 12, ground := Ground.guard }], guard := some (12, false) }) rfl (by kernel_rfl) (by kernel_rfl) (by kernel_rfl) (fun c a w h => hQp c _ _ w h) (yieldsIf_load_mid (by rfl) 52 _ rfl g1 (k * 58) rfl t.cells _ (fun w0 hSw => hSw.2.2.2.2.1) Try.underlying52 rfl agg52y) hHeld ?_
  simp only [Act.put, List.setIfInBounds_toArray, List.set_cons_zero, List.set_cons_succ]
  refine wpAnyH_ready (rs := [14, 20]) (by kernel_rfl) (by simp) ?_
  refine AllReadyH.cons (o := { dst := some 37, op := Op.buildSlice 35 1 #[(0, Operand.tmp 36)], type := 35, pos := "law.go:54", after := #[{ on := 13, ground := Ground.data }, { on := 12, ground := Ground.guard }], guard := some (12, false) }) rfl (fun K' hK' => ?_) (AllReadyH.cons (o := { dst := some 43, op := Op.buildSlice 35 1 #[(0, Operand.tmp 42)], type := 35, pos := "law.go:54", after := #[{ on := 19, ground := Ground.data }, { on := 12, ground := Ground.guard }], guard := some (12, false) }) rfl (fun K' hK' => ?_) AllReadyH.nil)
  · refine step_slice1 (by rfl) _ rfl s rfl ?_
    have f14 := hid (hSo.out _ bel.out)
    replace bel := hid (Below.over bel.out (al.out _ (.cells s.cells.toArray 52)))
    refine hK'.out _ _ (hS.out _ bel.out) (fun hHeld2 => ?_)
    clear hHeld hK' K'
    have hHeld := hHeld2
    clear hHeld2
    simp only [Act.put, List.setIfInBounds_toArray, List.set_cons_zero, List.set_cons_succ]
    refine wpAnyH_ready (rs := [15, 20]) (by kernel_rfl) (by simp) ?_
    refine AllReadyH.cons (o := { dst := some 38, op := Op.call { callee := Callee.value (Operand.func 13), args := #[Operand.tmp 37], argTypes := #[35] }, type := 33, pos := "law.go:54", after := #[{ on := 14, ground := Ground.data }, { on := 12, ground := Ground.chain }, { on := 12, ground := Ground.guard }], guard := some (12, false) }) rfl (fun K' hK' => ?_) (AllReadyH.cons (o := { dst := some 43, op := Op.buildSlice 35 1 #[(0, Operand.tmp 42)], type := 35, pos := "law.go:54", after := #[{ on := 19, ground := Ground.data }, { on := 12, ground := Ground.guard }], guard := some (12, false) }) rfl (fun K' hK' => ?_) AllReadyH.nil)
    · refine step_callG 13 ef13.out (by rfl) _ _ rfl [_] (by rfl) (C13.out _ s _ f14.out rfl) ?_
      rintro r15 y15 ⟨f15, hb⟩
      replace f15 := hid f15
      replace bel := hid (Below.over bel.out hb)
      clear f14 hb
      refine hK'.out _ _ (hS.out _ bel.out) (fun hHeld2 => ?_)
      clear hHeld hK' K'
      have hHeld := hHeld2
      clear hHeld2
      simp only [Act.put, List.setIfInBounds_toArray, List.set_cons_zero, List.set_cons_succ]
      refine wpAnyH_ready (rs := [20]) (by kernel_rfl) (by simp) ?_
      refine AllReadyH.cons (o := { dst := some 43, op := Op.buildSlice 35 1 #[(0, Operand.tmp 42)], type := 35, pos := "law.go:54", after := #[{ on := 19, ground := Ground.data }, { on := 12, ground := Ground.guard }], guard := some (12, false) }) rfl (fun K' hK' => ?_) AllReadyH.nil
      refine step_slice1 (by rfl) _ rfl t rfl ?_
      have f20 := hid (hTo.out _ bel.out)
      replace f15 := hid (RowAt.kept f15.out (al.out _ (.cells t.cells.toArray 52)))
      replace bel := hid (Below.over bel.out (al.out _ (.cells t.cells.toArray 52)))
      refine hK'.out _ _ (hS.out _ bel.out) (fun hHeld2 => ?_)
      clear hHeld hK' K'
      have hHeld := hHeld2
      clear hHeld2
      simp only [Act.put, List.setIfInBounds_toArray, List.set_cons_zero, List.set_cons_succ]
      refine wpAnyH_ready (rs := [21]) (by kernel_rfl) (by simp) ?_
      refine AllReadyH.cons (o := { dst := some 44, op := Op.call { callee := Callee.value (Operand.func 13), args := #[Operand.tmp 43], argTypes := #[35] }, type := 33, pos := "law.go:54", after := #[{ on := 20, ground := Ground.data }, { on := 15, ground := Ground.chain }, { on := 12, ground := Ground.guard }], guard := some (12, false) }) rfl (fun K' hK' => ?_) AllReadyH.nil
      refine step_callG 13 ef13.out (by rfl) _ _ rfl [_] (by rfl) (C13.out _ t _ f20.out eT.out.symm) ?_
      rintro r21 y21 ⟨f21, hb⟩
      replace f21 := hid f21
      replace f15 := hid (RowAt.kept f15.out hb)
      replace bel := hid (Below.over bel.out hb)
      clear f20 hb
      refine hK'.out _ _ (hS.out _ bel.out) (fun hHeld2 => ?_)
      clear hHeld hK' K'
      have hHeld := hHeld2
      clear hHeld2
      simp only [Act.put, List.setIfInBounds_toArray, List.set_cons_zero, List.set_cons_succ]
      refine wpAnyH_ready (rs := [22]) (by kernel_rfl) (by simp) ?_
      refine AllReadyH.cons (o := { dst := some 45, op := Op.call { callee := Callee.value (Operand.func 10), args := #[Operand.tmp 38, Operand.tmp 44], argTypes := #[33, 33] }, type := 4, pos := "law.go:54", after := #[{ on := 15, ground := Ground.data }, { on := 21, ground := Ground.data }, { on := 21, ground := Ground.chain }, { on := 12, ground := Ground.guard }], guard := some (12, false) }) rfl (fun K' hK' => ?_) AllReadyH.nil
      refine step_callG 10 ef10.out (by rfl) _ _ rfl [_, _] (by rfl) (C10.out _ _ _ f15.out f21.out) ?_
      rintro r22 y22 ⟨rfl, hb⟩
      replace bel := hid (Below.over bel.out hb)
      clear f15 f21 hb
      refine hK'.out _ _ (hS.out _ bel.out) (fun hHeld2 => ?_)
      clear hHeld hK' K'
      have hHeld := hHeld2
      clear hHeld2
      simp only [Act.put, List.setIfInBounds_toArray, List.set_cons_zero, List.set_cons_succ]
      refine wpAnyH_take (i := 23) (oi := { dst := some 46, op := Op.unOp UnOp.not 4 (Operand.tmp 45), type := 4, pos := "law.go:54", after := #[{ on := 22, ground := Ground.data }, { on := 12, ground := Ground.guard }], guard := some (12, false) }) (v := ?_) rfl (by kernel_rfl) (by kernel_rfl) (by kernel_rfl) (fun c a w h => hQp c _ _ w h) (Or.inl ⟨by rfl, ?_⟩) hHeld ?_
      rotate_left
      · intro w0 hSw; obtain ⟨q6, q7, q8, qd, -, -⟩ := hSw; go_simp; (try with_reducible rfl)
      simp only [Act.put, List.setIfInBounds_toArray, List.set_cons_zero, List.set_cons_succ]
      refine wpAnyH_take (i := 24) (oi := { dst := some 47, op := Op.pick (Operand.tmp 35) (Operand.const (Value.bool true)) (Operand.tmp 46), type := 4, pos := "law.go:54", after := #[{ on := 12, ground := Ground.data }, { on := 23, ground := Ground.data }], guard := none }) (v := ?_) rfl (by kernel_rfl) (by kernel_rfl) (by kernel_rfl) (fun c a w h => hQp c _ _ w h) (Or.inl ⟨by rfl, ?_⟩) hHeld ?_
      rotate_left
      · intro w0 hSw; obtain ⟨q6, q7, q8, qd, -, -⟩ := hSw; go_simp; (try with_reducible rfl)
      simp only [Act.put, List.setIfInBounds_toArray, List.set_cons_zero, List.set_cons_succ]
      refine wpAnyH_done (by kernel_rfl) ?_ _
      exact h.out _ _ _ _ _ _ _ _ _ _ _ _ _ _ _ _ _ _ _ _ _ _ _ _ _ bel.out
    · refine step_slice1 (by rfl) _ rfl t rfl ?_
      have f20 := hid (hTo.out _ bel.out)
      replace f14 := hid (stsOk.kept f14.out (al.out _ (.cells t.cells.toArray 52)))
      replace bel := hid (Below.over bel.out (al.out _ (.cells t.cells.toArray 52)))
      refine hK'.out _ _ (hS.out _ bel.out) (fun hHeld2 => ?_)
      clear hHeld hK' K'
      have hHeld := hHeld2
      clear hHeld2
      simp only [Act.put, List.setIfInBounds_toArray, List.set_cons_zero, List.set_cons_succ]
      refine wpAnyH_ready (rs := [15]) (by kernel_rfl) (by simp) ?_
      refine AllReadyH.cons (o := { dst := some 38, op := Op.call { callee := Callee.value (Operand.func 13), args := #[Operand.tmp 37], argTypes := #[35] }, type := 33, pos := "law.go:54", after := #[{ on := 14, ground := Ground.data }, { on := 12, ground := Ground.chain }, { on := 12, ground := Ground.guard }], guard := some (12, false) }) rfl (fun K' hK' => ?_) AllReadyH.nil
      refine step_callG 13 ef13.out (by rfl) _ _ rfl [_] (by rfl) (C13.out _ s _ f14.out rfl) ?_
      rintro r15 y15 ⟨f15, hb⟩
      replace f15 := hid f15
      replace f20 := hid (stsOk.kept f20.out hb)
      replace bel := hid (Below.over bel.out hb)
      clear f14 hb
      refine hK'.out _ _ (hS.out _ bel.out) (fun hHeld2 => ?_)
      clear hHeld hK' K'
      have hHeld := hHeld2
      clear hHeld2
      simp only [Act.put, List.setIfInBounds_toArray, List.set_cons_zero, List.set_cons_succ]
      refine wpAnyH_ready (rs := [21]) (by kernel_rfl) (by simp) ?_
      refine AllReadyH.cons (o := { dst := some 44, op := Op.call { callee := Callee.value (Operand.func 13), args := #[Operand.tmp 43], argTypes := #[35] }, type := 33, pos := "law.go:54", after := #[{ on := 20, ground := Ground.data }, { on := 15, ground := Ground.chain }, { on := 12, ground := Ground.guard }], guard := some (12, false) }) rfl (fun K' hK' => ?_) AllReadyH.nil
      refine step_callG 13 ef13.out (by rfl) _ _ rfl [_] (by rfl) (C13.out _ t _ f20.out eT.out.symm) ?_
      rintro r21 y21 ⟨f21, hb⟩
      replace f21 := hid f21
      replace f15 := hid (RowAt.kept f15.out hb)
      replace bel := hid (Below.over bel.out hb)
      clear f20 hb
      refine hK'.out _ _ (hS.out _ bel.out) (fun hHeld2 => ?_)
      clear hHeld hK' K'
      have hHeld := hHeld2
      clear hHeld2
      simp only [Act.put, List.setIfInBounds_toArray, List.set_cons_zero, List.set_cons_succ]
      refine wpAnyH_ready (rs := [22]) (by kernel_rfl) (by simp) ?_
      refine AllReadyH.cons (o := { dst := some 45, op := Op.call { callee := Callee.value (Operand.func 10), args := #[Operand.tmp 38, Operand.tmp 44], argTypes := #[33, 33] }, type := 4, pos := "law.go:54", after := #[{ on := 15, ground := Ground.data }, { on := 21, ground := Ground.data }, { on := 21, ground := Ground.chain }, { on := 12, ground := Ground.guard }], guard := some (12, false) }) rfl (fun K' hK' => ?_) AllReadyH.nil
      refine step_callG 10 ef10.out (by rfl) _ _ rfl [_, _] (by rfl) (C10.out _ _ _ f15.out f21.out) ?_
      rintro r22 y22 ⟨rfl, hb⟩
      replace bel := hid (Below.over bel.out hb)
      clear f15 f21 hb
      refine hK'.out _ _ (hS.out _ bel.out) (fun hHeld2 => ?_)
      clear hHeld hK' K'
      have hHeld := hHeld2
      clear hHeld2
      simp only [Act.put, List.setIfInBounds_toArray, List.set_cons_zero, List.set_cons_succ]
      refine wpAnyH_take (i := 23) (oi := { dst := some 46, op := Op.unOp UnOp.not 4 (Operand.tmp 45), type := 4, pos := "law.go:54", after := #[{ on := 22, ground := Ground.data }, { on := 12, ground := Ground.guard }], guard := some (12, false) }) (v := ?_) rfl (by kernel_rfl) (by kernel_rfl) (by kernel_rfl) (fun c a w h => hQp c _ _ w h) (Or.inl ⟨by rfl, ?_⟩) hHeld ?_
      rotate_left
      · intro w0 hSw; obtain ⟨q6, q7, q8, qd, -, -⟩ := hSw; go_simp; (try with_reducible rfl)
      simp only [Act.put, List.setIfInBounds_toArray, List.set_cons_zero, List.set_cons_succ]
      refine wpAnyH_take (i := 24) (oi := { dst := some 47, op := Op.pick (Operand.tmp 35) (Operand.const (Value.bool true)) (Operand.tmp 46), type := 4, pos := "law.go:54", after := #[{ on := 12, ground := Ground.data }, { on := 23, ground := Ground.data }], guard := none }) (v := ?_) rfl (by kernel_rfl) (by kernel_rfl) (by kernel_rfl) (fun c a w h => hQp c _ _ w h) (Or.inl ⟨by rfl, ?_⟩) hHeld ?_
      rotate_left
      · intro w0 hSw; obtain ⟨q6, q7, q8, qd, -, -⟩ := hSw; go_simp; (try with_reducible rfl)
      simp only [Act.put, List.setIfInBounds_toArray, List.set_cons_zero, List.set_cons_succ]
      refine wpAnyH_done (by kernel_rfl) ?_ _
      exact h.out _ _ _ _ _ _ _ _ _ _ _ _ _ _ _ _ _ _ _ _ _ _ _ _ _ bel.out
  · refine step_slice1 (by rfl) _ rfl t rfl ?_
    have f20 := hid (hTo.out _ bel.out)
    replace bel := hid (Below.over bel.out (al.out _ (.cells t.cells.toArray 52)))
    refine hK'.out _ _ (hS.out _ bel.out) (fun hHeld2 => ?_)
    clear hHeld hK' K'
    have hHeld := hHeld2
    clear hHeld2
    simp only [Act.put, List.setIfInBounds_toArray, List.set_cons_zero, List.set_cons_succ]
    refine wpAnyH_ready (rs := [14]) (by kernel_rfl) (by simp) ?_
    refine AllReadyH.cons (o := { dst := some 37, op := Op.buildSlice 35 1 #[(0, Operand.tmp 36)], type := 35, pos := "law.go:54", after := #[{ on := 13, ground := Ground.data }, { on := 12, ground := Ground.guard }], guard := some (12, false) }) rfl (fun K' hK' => ?_) AllReadyH.nil
    refine step_slice1 (by rfl) _ rfl s rfl ?_
    have f14 := hid (hSo.out _ bel.out)
    replace f20 := hid (stsOk.kept f20.out (al.out _ (.cells s.cells.toArray 52)))
    replace bel := hid (Below.over bel.out (al.out _ (.cells s.cells.toArray 52)))
    refine hK'.out _ _ (hS.out _ bel.out) (fun hHeld2 => ?_)
    clear hHeld hK' K'
    have hHeld := hHeld2
    clear hHeld2
    simp only [Act.put, List.setIfInBounds_toArray, List.set_cons_zero, List.set_cons_succ]
    refine wpAnyH_ready (rs := [15]) (by kernel_rfl) (by simp) ?_
    refine AllReadyH.cons (o := { dst := some 38, op := Op.call { callee := Callee.value (Operand.func 13), args := #[Operand.tmp 37], argTypes := #[35] }, type := 33, pos := "law.go:54", after := #[{ on := 14, ground := Ground.data }, { on := 12, ground := Ground.chain }, { on := 12, ground := Ground.guard }], guard := some (12, false) }) rfl (fun K' hK' => ?_) AllReadyH.nil
    refine step_callG 13 ef13.out (by rfl) _ _ rfl [_] (by rfl) (C13.out _ s _ f14.out rfl) ?_
    rintro r15 y15 ⟨f15, hb⟩
    replace f15 := hid f15
    replace f20 := hid (stsOk.kept f20.out hb)
    replace bel := hid (Below.over bel.out hb)
    clear f14 hb
    refine hK'.out _ _ (hS.out _ bel.out) (fun hHeld2 => ?_)
    clear hHeld hK' K'
    have hHeld := hHeld2
    clear hHeld2
    simp only [Act.put, List.setIfInBounds_toArray, List.set_cons_zero, List.set_cons_succ]
    refine wpAnyH_ready (rs := [21]) (by kernel_rfl) (by simp) ?_
    refine AllReadyH.cons (o := { dst := some 44, op := Op.call { callee := Callee.value (Operand.func 13), args := #[Operand.tmp 43], argTypes := #[35] }, type := 33, pos := "law.go:54", after := #[{ on := 20, ground := Ground.data }, { on := 15, ground := Ground.chain }, { on := 12, ground := Ground.guard }], guard := some (12, false) }) rfl (fun K' hK' => ?_) AllReadyH.nil
    refine step_callG 13 ef13.out (by rfl) _ _ rfl [_] (by rfl) (C13.out _ t _ f20.out eT.out.symm) ?_
    rintro r21 y21 ⟨f21, hb⟩
    replace f21 := hid f21
    replace f15 := hid (RowAt.kept f15.out hb)
    replace bel := hid (Below.over bel.out hb)
    clear f20 hb
    refine hK'.out _ _ (hS.out _ bel.out) (fun hHeld2 => ?_)
    clear hHeld hK' K'
    have hHeld := hHeld2
    clear hHeld2
    simp only [Act.put, List.setIfInBounds_toArray, List.set_cons_zero, List.set_cons_succ]
    refine wpAnyH_ready (rs := [22]) (by kernel_rfl) (by simp) ?_
    refine AllReadyH.cons (o := { dst := some 45, op := Op.call { callee := Callee.value (Operand.func 10), args := #[Operand.tmp 38, Operand.tmp 44], argTypes := #[33, 33] }, type := 4, pos := "law.go:54", after := #[{ on := 15, ground := Ground.data }, { on := 21, ground := Ground.data }, { on := 21, ground := Ground.chain }, { on := 12, ground := Ground.guard }], guard := some (12, false) }) rfl (fun K' hK' => ?_) AllReadyH.nil
    refine step_callG 10 ef10.out (by rfl) _ _ rfl [_, _] (by rfl) (C10.out _ _ _ f15.out f21.out) ?_
    rintro r22 y22 ⟨rfl, hb⟩
    replace bel := hid (Below.over bel.out hb)
    clear f15 f21 hb
    refine hK'.out _ _ (hS.out _ bel.out) (fun hHeld2 => ?_)
    clear hHeld hK' K'
    have hHeld := hHeld2
    clear hHeld2
    simp only [Act.put, List.setIfInBounds_toArray, List.set_cons_zero, List.set_cons_succ]
    refine wpAnyH_take (i := 23) (oi := { dst := some 46, op := Op.unOp UnOp.not 4 (Operand.tmp 45), type := 4, pos := "law.go:54", after := #[{ on := 22, ground := Ground.data }, { on := 12, ground := Ground.guard }], guard := some (12, false) }) (v := ?_) rfl (by kernel_rfl) (by kernel_rfl) (by kernel_rfl) (fun c a w h => hQp c _ _ w h) (Or.inl ⟨by rfl, ?_⟩) hHeld ?_
    rotate_left
    · intro w0 hSw; obtain ⟨q6, q7, q8, qd, -, -⟩ := hSw; go_simp; (try with_reducible rfl)
    simp only [Act.put, List.setIfInBounds_toArray, List.set_cons_zero, List.set_cons_succ]
    refine wpAnyH_take (i := 24) (oi := { dst := some 47, op := Op.pick (Operand.tmp 35) (Operand.const (Value.bool true)) (Operand.tmp 46), type := 4, pos := "law.go:54", after := #[{ on := 12, ground := Ground.data }, { on := 23, ground := Ground.data }], guard := none }) (v := ?_) rfl (by kernel_rfl) (by kernel_rfl) (by kernel_rfl) (fun c a w h => hQp c _ _ w h) (Or.inl ⟨by rfl, ?_⟩) hHeld ?_
    rotate_left
    · intro w0 hSw; obtain ⟨q6, q7, q8, qd, -, -⟩ := hSw; go_simp; (try with_reducible rfl)
    simp only [Act.put, List.setIfInBounds_toArray, List.set_cons_zero, List.set_cons_succ]
    refine wpAnyH_done (by kernel_rfl) ?_ _
    exact h.out _ _ _ _ _ _ _ _ _ _ _ _ _ _ _ _ _ _ _ _ _ _ _ _ _ bel.out
end Go.Proofs.Ytfdfeiempeciiaa

