/- Region 10 of gone: what it answers, in whatever order it is reckoned. Printed by wip/tools/mkgone10.py. -/
import Derived.Test.YtfdfeiempeciiaaGone7
import Derived.Test.YtfdfeiempeciiaaJoinE
import Derived.Test.YtfdfeiempeciiaaFlatW
import Derived.Test.YtfdfeiempeciiaaFlatB
import Derived.Test.YtfdfeiempeciiaaRefStmts
import Derived.Test.YtfdfeiempeciiaaInRound
import Derived.Test.YtfdfeiempeciiaaLens
import Derived.Test.YtfdfeiempeciiaaAlive
import Derived.Test.YtfdfeiempeciiaaJoinA
import Derived.Test.YtfdfeiempeciiaaMake1
import Derived.Deep.CutBlock
import Derived.Deep.CutRange
import Derived.Deep.DeepCutAuto
namespace Go.Proofs.Ytfdfeiempeciiaa
open Go.ChangeShapes Go.WideShapes Go.ChangeAt Go.RowKit Go.Shelf
set_option linter.unusedVariables false
attribute [local go_sem] Oper.semAt_some

theorem step_storeV {ops : Array Oper} {o : Oper} {a : Act} {w : World} {K : Act → World → Prop} {Q : Exit → Act → World → Prop} {E : Prop} (hw : Region.wanted o (yielded ops a.tmps) = true) (ty : TypeId) (x y : Operand) (ho : o.op = .store ty x y) (b : Nat) (hx : a.eval x = .pointer (some ⟨b, 0, none⟩)) (u : Value) (hy : a.eval y = u)
    (hT : (Try.prog.info? ty).map (·.size) = some 1) (h1 : u.oneCell' = true) (c : Value) (t : TypeId) (hv : VarAt w b [c] t) (h : ∀ w', VarAt w' b [u] t → Touch (fun g => g = b) w w' → K (a.put o.dst undef) w') :
    if Region.wanted o (yielded ops a.tmps) = true then Oper.wp Try.prog o a w K Q else E := by
  rw [if_pos hw]
  have hc : u.cells = #[u] := by cases u <;> first | rfl | simp [Value.oneCell'] at h1
  have hr : (storeVar ty ⟨b, 0, none⟩ u).run Try.prog w = .ok () (w.setCell ⟨b, 0, none⟩ u) := by
    have hs := run_storeCells_cells (P := Try.prog) b 0 [u] 0 w (fun j hj => by simpa using (hv.there 0 1 (by simp) j (by simpa using hj)).1) (fun j hj => by simpa using (hv.there 0 1 (by simp) j (by simpa using hj)).2) (fun v hv => by simp at hv; subst hv; exact h1)
    cases hq : Try.prog.info? ty with
    | none => simp [hq] at hT
    | some i =>
      have e : i.size = 1 := by simpa [hq] using hT
      simp only [Nat.add_zero] at hs
      simp [storeVar, sizeOf, typeInfo, hq, hc, e]
      simpa [World.setCells] using hs
  unfold Oper.wp execOp
  simp [ho, hx, hy, Instr.storeAt, Instr.sureAddr, hr, Result.andThen]
  simpa [Oper.upon] using h _ (hv.set 0 u) (Touch.setCell _ _ _ rfl)

set_option maxRecDepth 100000 in
set_option maxHeartbeats 2000000 in
theorem gone10 {Q : Exit → Act → World → Prop} (W : World) (b3 b4 b5 b6 b8 k n1 c1 : Nat) (p1 : Option Addr) (most : Int) (ds : List Deferred) (u0 u1 u2 u7 u9 u10 u11 u12 u13 u14 u15 u16 u17 u18 u19 u20 u21 u22 u23 u24 u25 u26 u27 u28 u29 u30 u31 u32 u33 u34 u35 u36 u37 u38 u39 u40 u41 u42 u43 u44 u45 u46 u47 u48 u49 u50 u51 u52 u53 u54 u55 u56 u57 u58 : Value)
    (h3 : VarAt W b3 [.int .i64 most] 3) (h4 : VarAt W b4 [.int .i64 0] 3) (h5 : VarAt W b5 [.bool false] 4) (h6 : VarAt W b6 [.slice p1 n1 c1] 35) (h8 : VarAt W b8 [.int .i64 k] 3)
    (n43 : b4 ≠ b3) (n46 : b4 ≠ b6) (n48 : b4 ≠ b8) (n53 : b5 ≠ b3) (n56 : b5 ≠ b6) (n58 : b5 ≠ b8) (n45 : b4 ≠ b5) (hk : (k : Int) = min (max most 0) n1) (hQp : ∀ c a a' w, Q (.panic c) a w → Q (.panic c) a' w)
    (h : ∀ (x51 x52 x53 x54 x55 x56 x57 x58 : Value) (X : World), VarAt X b4 [.int .i64 k] 3 → VarAt X b5 [.bool true] 4 → Touch (fun b => b = b4 ∨ b = b5) W X → Q .normal { tmps := (u0 :: u1 :: u2 :: .pointer (some ⟨b3, 0, none⟩) :: .pointer (some ⟨b4, 0, none⟩) :: .pointer (some ⟨b5, 0, none⟩) :: .pointer (some ⟨b6, 0, none⟩) :: u7 :: .pointer (some ⟨b8, 0, none⟩) :: u9 :: u10 :: u11 :: u12 :: u13 :: u14 :: u15 :: u16 :: u17 :: u18 :: u19 :: u20 :: u21 :: u22 :: u23 :: u24 :: u25 :: u26 :: u27 :: u28 :: u29 :: u30 :: u31 :: u32 :: u33 :: u34 :: u35 :: u36 :: u37 :: u38 :: u39 :: u40 :: u41 :: u42 :: u43 :: u44 :: u45 :: u46 :: u47 :: u48 :: u49 :: u50 :: x51 :: x52 :: x53 :: x54 :: x55 :: x56 :: x57 :: x58 :: []).toArray, defers := ds } X) :
    (Code.region 10 #[{ dst := some 51, op := Op.load 3 (Operand.tmp 8), type := 3, pos := "law.go:59", after := #[], guard := none }, { dst := some 52, op := Op.load 3 (Operand.tmp 8), type := 3, pos := "law.go:59", after := #[], guard := none }, { dst := some 53, op := Op.load 3 (Operand.tmp 3), type := 3, pos := "law.go:59", after := #[], guard := none }, { dst := some 54, op := Op.call { callee := Callee.builtin Builtin.max, args := #[Operand.tmp 53, Operand.const (Value.int IntKind.i64 0)], argTypes := #[3, 3] }, type := 3, pos := "law.go:59", after := #[{ on := 2, ground := Ground.data }], guard := none }, { dst := some 55, op := Op.load 35 (Operand.tmp 6), type := 35, pos := "law.go:59", after := #[], guard := none }, { dst := some 56, op := Op.call { callee := Callee.builtin Builtin.len, args := #[Operand.tmp 55], argTypes := #[35] }, type := 3, pos := "law.go:59", after := #[{ on := 4, ground := Ground.data }], guard := none }, { dst := some 57, op := Op.call { callee := Callee.builtin Builtin.min, args := #[Operand.tmp 54, Operand.tmp 56], argTypes := #[3, 3] }, type := 3, pos := "law.go:59", after := #[{ on := 3, ground := Ground.data }, { on := 5, ground := Ground.data }], guard := none }, { dst := some 58, op := Op.binOp BinOp.eql 3 (Operand.tmp 52) (Operand.tmp 57) 3, type := 4, pos := "law.go:59", after := #[{ on := 1, ground := Ground.data }, { on := 6, ground := Ground.data }], guard := none }, { dst := none, op := Op.store 3 (Operand.tmp 4) (Operand.tmp 51), type := 0, pos := "law.go:59", after := #[{ on := 0, ground := Ground.data }, { on := 0, ground := Ground.phase }, { on := 1, ground := Ground.textOnly Departure.inlinedCapture }, { on := 2, ground := Ground.textOnly Departure.lateStores }, { on := 3, ground := Ground.textOnly Departure.lateStoresUnsure }, { on := 4, ground := Ground.textOnly Departure.lateStores }, { on := 5, ground := Ground.textOnly Departure.lateStoresUnsure }, { on := 6, ground := Ground.textOnly Departure.lateStoresUnsure }, { on := 7, ground := Ground.textOnly Departure.inlinedCapture }], guard := none }, { dst := none, op := Op.store 4 (Operand.tmp 5) (Operand.tmp 58), type := 0, pos := "law.go:59", after := #[{ on := 7, ground := Ground.data }, { on := 8, ground := Ground.chain }, { on := 0, ground := Ground.phase }, { on := 1, ground := Ground.phase }, { on := 2, ground := Ground.phase }, { on := 3, ground := Ground.phase }, { on := 4, ground := Ground.phase }, { on := 5, ground := Ground.phase }, { on := 6, ground := Ground.phase }, { on := 7, ground := Ground.phase }, { on := 8, ground := Ground.phase }], guard := none }] true).wp Try.prog Q { tmps := (u0 :: u1 :: u2 :: .pointer (some ⟨b3, 0, none⟩) :: .pointer (some ⟨b4, 0, none⟩) :: .pointer (some ⟨b5, 0, none⟩) :: .pointer (some ⟨b6, 0, none⟩) :: u7 :: .pointer (some ⟨b8, 0, none⟩) :: u9 :: u10 :: u11 :: u12 :: u13 :: u14 :: u15 :: u16 :: u17 :: u18 :: u19 :: u20 :: u21 :: u22 :: u23 :: u24 :: u25 :: u26 :: u27 :: u28 :: u29 :: u30 :: u31 :: u32 :: u33 :: u34 :: u35 :: u36 :: u37 :: u38 :: u39 :: u40 :: u41 :: u42 :: u43 :: u44 :: u45 :: u46 :: u47 :: u48 :: u49 :: u50 :: u51 :: u52 :: u53 :: u54 :: u55 :: u56 :: u57 :: u58 :: []).toArray, defers := ds } W := by
  have hH : (fun X : World => X.cell? ⟨b8, 0, none⟩ = some (.int .i64 k) ∧ X.cell? ⟨b3, 0, none⟩ = some (.int .i64 most) ∧ X.cell? ⟨b6, 0, none⟩ = some (.slice p1 n1 c1)) W.drew := ⟨h8.cell 0 rfl, h3.cell 0 rfl, h6.cell 0 rfl⟩
  replace h := hid h
  replace hk := hid hk
  refine wp_region_held_drew (S := (fun X : World => X.cell? ⟨b8, 0, none⟩ = some (.int .i64 k) ∧ X.cell? ⟨b3, 0, none⟩ = some (.int .i64 most) ∧ X.cell? ⟨b6, 0, none⟩ = some (.slice p1 n1 c1))) (by kernel_rfl) hH (fun hHeld => ?_)
  refine wpAnyH_take (i := 0) (oi := { dst := some 51, op := Op.load 3 (Operand.tmp 8), type := 3, pos := "law.go:59", after := #[], guard := none }) (v := ?_) rfl (by kernel_rfl) (by kernel_rfl) (by kernel_rfl) (fun c a w h => hQp c _ _ w h) (Or.inl ⟨by rfl, ?_⟩) hHeld ?_
  rotate_left
  · intro w0 hSw; obtain ⟨q8, q3, q6⟩ := hSw; go_simp; (try with_reducible rfl)
  simp only [Act.put, List.setIfInBounds_toArray, List.set_cons_zero, List.set_cons_succ]
  refine wpAnyH_take (i := 1) (oi := { dst := some 52, op := Op.load 3 (Operand.tmp 8), type := 3, pos := "law.go:59", after := #[], guard := none }) (v := ?_) rfl (by kernel_rfl) (by kernel_rfl) (by kernel_rfl) (fun c a w h => hQp c _ _ w h) (Or.inl ⟨by rfl, ?_⟩) hHeld ?_
  rotate_left
  · intro w0 hSw; obtain ⟨q8, q3, q6⟩ := hSw; go_simp; (try with_reducible rfl)
  simp only [Act.put, List.setIfInBounds_toArray, List.set_cons_zero, List.set_cons_succ]
  refine wpAnyH_take (i := 2) (oi := { dst := some 53, op := Op.load 3 (Operand.tmp 3), type := 3, pos := "law.go:59", after := #[], guard := none }) (v := ?_) rfl (by kernel_rfl) (by kernel_rfl) (by kernel_rfl) (fun c a w h => hQp c _ _ w h) (Or.inl ⟨by rfl, ?_⟩) hHeld ?_
  rotate_left
  · intro w0 hSw; obtain ⟨q8, q3, q6⟩ := hSw; go_simp; (try with_reducible rfl)
  simp only [Act.put, List.setIfInBounds_toArray, List.set_cons_zero, List.set_cons_succ]
  refine wpAnyH_take (i := 3) (oi := { dst := some 54, op := Op.call { callee := Callee.builtin Builtin.max, args := #[Operand.tmp 53, Operand.const (Value.int IntKind.i64 0)], argTypes := #[3, 3] }, type := 3, pos := "law.go:59", after := #[{ on := 2, ground := Ground.data }], guard := none }) (v := .int .i64 (max most 0)) rfl (by kernel_rfl) (by kernel_rfl) (by kernel_rfl) (fun c a w h => hQp c _ _ w h) (Or.inl ⟨by rfl, ?_⟩) hHeld ?_
  · intro w0 hSw; obtain ⟨q8, q3, q6⟩ := hSw; go_simp; split <;> omega
  simp only [Act.put, List.setIfInBounds_toArray, List.set_cons_zero, List.set_cons_succ]
  refine wpAnyH_take (i := 4) (oi := { dst := some 55, op := Op.load 35 (Operand.tmp 6), type := 35, pos := "law.go:59", after := #[], guard := none }) (v := ?_) rfl (by kernel_rfl) (by kernel_rfl) (by kernel_rfl) (fun c a w h => hQp c _ _ w h) (Or.inl ⟨by rfl, ?_⟩) hHeld ?_
  rotate_left
  · intro w0 hSw; obtain ⟨q8, q3, q6⟩ := hSw; go_simp; (try with_reducible rfl)
  simp only [Act.put, List.setIfInBounds_toArray, List.set_cons_zero, List.set_cons_succ]
  refine wpAnyH_take (i := 5) (oi := { dst := some 56, op := Op.call { callee := Callee.builtin Builtin.len, args := #[Operand.tmp 55], argTypes := #[35] }, type := 3, pos := "law.go:59", after := #[{ on := 4, ground := Ground.data }], guard := none }) (v := ?_) rfl (by kernel_rfl) (by kernel_rfl) (by kernel_rfl) (fun c a w h => hQp c _ _ w h) (Or.inl ⟨by rfl, ?_⟩) hHeld ?_
  rotate_left
  · intro w0 hSw; obtain ⟨q8, q3, q6⟩ := hSw; go_simp; (try with_reducible rfl)
  simp only [Act.put, List.setIfInBounds_toArray, List.set_cons_zero, List.set_cons_succ]
  refine wpAnyH_take (i := 6) (oi := { dst := some 57, op := Op.call { callee := Callee.builtin Builtin.min, args := #[Operand.tmp 54, Operand.tmp 56], argTypes := #[3, 3] }, type := 3, pos := "law.go:59", after := #[{ on := 3, ground := Ground.data }, { on := 5, ground := Ground.data }], guard := none }) (v := .int .i64 k) rfl (by kernel_rfl) (by kernel_rfl) (by kernel_rfl) (fun c a w h => hQp c _ _ w h) (Or.inl ⟨by rfl, ?_⟩) hHeld ?_
  · intro w0 hSw; obtain ⟨q8, q3, q6⟩ := hSw; go_simp; rw [hk.out]; split <;> omega
  simp only [Act.put, List.setIfInBounds_toArray, List.set_cons_zero, List.set_cons_succ]
  refine wpAnyH_take (i := 7) (oi := { dst := some 58, op := Op.binOp BinOp.eql 3 (Operand.tmp 52) (Operand.tmp 57) 3, type := 4, pos := "law.go:59", after := #[{ on := 1, ground := Ground.data }, { on := 6, ground := Ground.data }], guard := none }) (v := .bool true) rfl (by kernel_rfl) (by kernel_rfl) (by kernel_rfl) (fun c a w h => hQp c _ _ w h) (Or.inl ⟨by rfl, ?_⟩) hHeld ?_
  · intro w0 hSw; obtain ⟨q8, q3, q6⟩ := hSw; go_simp; skip
  simp only [Act.put, List.setIfInBounds_toArray, List.set_cons_zero, List.set_cons_succ]
  have h3' : VarAt W.drew b3 [.int .i64 most] 3 := h3
  have h4' : VarAt W.drew b4 [.int .i64 0] 3 := h4
  have h5a : VarAt W.drew b5 [.bool false] 4 := h5
  have h6' : VarAt W.drew b6 [.slice p1 n1 c1] 35 := h6
  have h8' : VarAt W.drew b8 [.int .i64 k] 3 := h8
  refine wpAnyH_ready (rs := [8]) (by kernel_rfl) (by simp) ?_
  refine AllReadyH.cons (o := { dst := none, op := Op.store 3 (Operand.tmp 4) (Operand.tmp 51), type := 0, pos := "law.go:59", after := #[{ on := 0, ground := Ground.data }, { on := 0, ground := Ground.phase }, { on := 1, ground := Ground.textOnly Departure.inlinedCapture }, { on := 2, ground := Ground.textOnly Departure.lateStores }, { on := 3, ground := Ground.textOnly Departure.lateStoresUnsure }, { on := 4, ground := Ground.textOnly Departure.lateStores }, { on := 5, ground := Ground.textOnly Departure.lateStoresUnsure }, { on := 6, ground := Ground.textOnly Departure.lateStoresUnsure }, { on := 7, ground := Ground.textOnly Departure.inlinedCapture }], guard := none }) rfl (fun K' hK' => ?_) AllReadyH.nil
  refine step_storeV (by rfl) 3 _ _ rfl b4 rfl (.int .i64 k) rfl (by kernel_rfl) rfl (.int .i64 0) 3 h4' ?_
  intro y8 g8 t8
  replace hHeld := (show _ ∧ _ ∧ _ from ⟨(h8'.touch t8 n48.symm).cell 0 rfl, (h3'.touch t8 n43.symm).cell 0 rfl, (h6'.touch t8 n46.symm).cell 0 rfl⟩)
  refine hK'.out _ _ hHeld (fun hHeld2 => ?_)
  clear hHeld2 hK' K'
  simp only [Act.put]
  have h5' := h5a.touch t8 n45.symm
  refine wpAnyH_ready (rs := [9]) (by kernel_rfl) (by simp) ?_
  refine AllReadyH.cons (o := { dst := none, op := Op.store 4 (Operand.tmp 5) (Operand.tmp 58), type := 0, pos := "law.go:59", after := #[{ on := 7, ground := Ground.data }, { on := 8, ground := Ground.chain }, { on := 0, ground := Ground.phase }, { on := 1, ground := Ground.phase }, { on := 2, ground := Ground.phase }, { on := 3, ground := Ground.phase }, { on := 4, ground := Ground.phase }, { on := 5, ground := Ground.phase }, { on := 6, ground := Ground.phase }, { on := 7, ground := Ground.phase }, { on := 8, ground := Ground.phase }], guard := none }) rfl (fun K' hK' => ?_) AllReadyH.nil
  refine step_storeV (by rfl) 4 _ _ rfl b5 rfl (.bool true) rfl (by kernel_rfl) rfl (.bool false) 4 h5' ?_
  intro y9 g9 t9
  replace hHeld := (show _ ∧ _ ∧ _ from ⟨((h8'.touch t8 n48.symm).touch t9 n58.symm).cell 0 rfl, ((h3'.touch t8 n43.symm).touch t9 n53.symm).cell 0 rfl, ((h6'.touch t8 n46.symm).touch t9 n56.symm).cell 0 rfl⟩)
  refine hK'.out _ _ hHeld (fun hHeld2 => ?_)
  clear hHeld2 hK' K'
  simp only [Act.put]
  refine wpAnyH_done (by kernel_rfl) ?_ _
  exact h.out _ _ _ _ _ _ _ _ _ (g8.touch t9 n45) g9 ((Touch.mk rfl rfl rfl (Nat.le_refl _) (fun _ _ _ => rfl) : Touch _ W W.drew).trans ((t8.mono (fun _ _ h => .inl h)).trans (t9.mono (fun _ _ h => .inr h))))
end Go.Proofs.Ytfdfeiempeciiaa

/- The contract of gone: begun. -/
namespace Go.Proofs.Ytfdfeiempeciiaa
open Go.ChangeShapes Go.WideShapes Go.ChangeAt Go.RowKit Go.Shelf
set_option linter.unusedVariables false
attribute [local go_sem] Oper.semAt_some

theorem nextN {X : World} {b k : Nat} (h : VarAt X b [.int .i64 k] 3) : VarAt (X.setCell ⟨b, 0, none⟩ (.int .i64 ((k : Int) + 1))) b [.int .i64 ((k + 1 : Nat) : Int)] 3 := by
  rw [show ((k + 1 : Nat) : Int) = (k : Int) + 1 by omega]
  exact h.set 0 (.int .i64 ((k : Int) + 1))
theorem turnN {X X' : World} (h : Below X.heap.size X X') (b : Nat) (v : Value) : Touch (fun i => i = b) X (X'.setCell ⟨b, 0, none⟩ v) := by
  refine (Touch.of_below h).trans ?_
  exact Touch.setCell X' ⟨b, 0, none⟩ v rfl
theorem nextK (k : Nat) (most : Int) (h : ¬ most ≤ (k : Int)) : ((k + 1 : Nat) : Int) ≤ max most 0 := by omega
theorem wpIn_calm {F : Fence} {n : Nat} {c : Code} {Q : Exit → Act → World → Prop} {a : Act} {w : World} (h : c.wpIn F n Try.prog (Exit.then (Q .normal) (fun _ _ _ => False)) a w) : c.wpIn F n Try.prog Q a w :=
  wpIn_mono h (fun e a w h => by cases e <;> first | exact h | exact h.elim)
theorem loadVar3 (w : World) (b : Nat) (n : Int) (h : VarAt w b [.int .i64 n] 3) : (loadVar 3 ⟨b, 0, none⟩).run Try.prog w = .ok (.int .i64 n) w := by
  have c := h.cell 0 (v := .int .i64 n) rfl
  go_simp
theorem loadVar4 (w : World) (b : Nat) (n : Bool) (h : VarAt w b [.bool n] 4) : (loadVar 4 ⟨b, 0, none⟩).run Try.prog w = .ok (.bool n) w := by
  have c := h.cell 0 (v := .bool n) rfl
  go_simp
theorem results_cells {fn : Func} {t u ty ty' : Nat} (h : fn.results = #[.cell t ty, .cell u ty']) (tmps : Array Value) (w : World) (b b' : Nat) (v v' : Value) (h1 : tmps.getD t undef = .pointer (some ⟨b, 0, none⟩)) (h2 : tmps.getD u undef = .pointer (some ⟨b', 0, none⟩))
    (l1 : (loadVar ty ⟨b, 0, none⟩).run Try.prog w = .ok v w) (l2 : (loadVar ty' ⟨b', 0, none⟩).run Try.prog w = .ok v' w) : (results fn tmps).run Try.prog w = .ok (.tuple #[v, v']) w := by
  rw [Array.getD_eq_getD_getElem?] at h1 h2
  simp [results, h, h1, h2, asAddr, l1, l2]
theorem flatL_texts2 (l : List St) (d : Int) : ∀ x ∈ flatL d l, (rowT [x.2]).length ≤ (rowT l).length := fun x hx => by
  simp only [flatL, List.mem_flatMap] at hx
  obtain ⟨k, hk, hx⟩ := hx
  have h1 := flat_texts k d x hx
  obtain ⟨i, hi⟩ := List.mem_iff_getElem?.1 hk
  have h2 := mem_take_len St.texts l i k hi
  simp only [rowT, List.length_append, List.flatMap_cons, List.flatMap_nil, List.append_nil, List.length_cons, List.length_nil]
  omega
set_option maxRecDepth 100000 in
set_option maxHeartbeats 2000000 in
theorem gone_any (l : List St) (v : Value) (most : Int) (w : World) (F : Nat → Prop) (hl : stsOk w F v l) (ht : (rowT l).length ≤ 2000000) (hn : (flatL 0 l).length ≤ 1000000) (hm : I64 most) :
    Calls Try.prog 17 #[v, .int .i64 most] w fun e w' => e = .returned (.tuple #[.int .i64 (min (max most 0) (flatL 0 l).length), .bool true]) ∧ Below w.heap.size w w' := by
  refine (callsIn_wide (n := 3)).1 ?_
  have b3 : Below w.heap.size w (((w.alloc (.cells #[.int .i64 most] 3)).alloc (.cells #[.int .i64 0] 3)).alloc (.cells #[.bool false] 4)) := Below.over (below_two _ _ _) ((Below.refl _ _).alloc (Nat.le_refl _) _)
  have C := hid (flat_any l v 0 _ F (hl.kept b3) hn)
  obtain ⟨pv, cv, rfl⟩ := hl.1.form
  refine callsIn_of_wp_marks Try.func17 rfl trivial ?_ rfl
  simp only [Try.ntmps17, List.size_toArray, List.length_cons, List.length_nil, Nat.reduceAdd, Nat.reduceSub, Array.replicate_succ, Array.replicate_zero, List.push_toArray, List.append_toArray, List.nil_append, List.cons_append]
  gi_wp2_with (refine ⟨trivial, ?_⟩; gi_at_call 18; refine (callsIn_wide.2 C.out).mono ?_; rintro e w1 ⟨p1, n1, c1, p2, n2, c2, rfl, h2⟩; replace h2 := hid h2)
  have b4 : Below w1.heap.size w1 (((w1.alloc (.cells #[.slice p1 n1 c1] 35)).alloc (.cells #[.slice p2 n2 c2] 22)).alloc (.cells #[.int .i64 0] 3)) := Below.over (below_two _ _ _) ((Below.refl _ _).alloc (Nat.le_refl _) _)
  have D0 := hid (all_any l (.slice pv l.length cv) _ F (((hl.kept b3).kept h2.out.bel).kept b4) ht)
  have z4 : (((w1.alloc (.cells #[.slice p1 n1 c1] 35)).alloc (.cells #[.slice p2 n2 c2] 22)).alloc (.cells #[.int .i64 0] 3)).heap.size = w1.heap.size + 3 := by simp only [World.size_alloc]
  have u6 : VarAt (((w1.alloc (.cells #[.slice p1 n1 c1] 35)).alloc (.cells #[.slice p2 n2 c2] 22)).alloc (.cells #[.int .i64 0] 3)) w1.heap.size [.slice p1 n1 c1] 35 := ((VarAt.new w1 [.slice p1 n1 c1] 35).kept ((Below.refl _ _).alloc (Nat.le_refl _) _)).kept ((Below.refl _ _).alloc (Nat.le_refl _) _)
  have u7 : VarAt (((w1.alloc (.cells #[.slice p1 n1 c1] 35)).alloc (.cells #[.slice p2 n2 c2] 22)).alloc (.cells #[.int .i64 0] 3)) (w1.heap.size + 1) [.slice p2 n2 c2] 22 := by
    have := (VarAt.new (w1.alloc (.cells #[.slice p1 n1 c1] 35)) [.slice p2 n2 c2] 22).kept ((Below.refl _ _).alloc (Nat.le_refl _) (.cells #[.int .i64 0] 3))
    rw [World.size_alloc] at this
    exact this
  have u8 : VarAt (((w1.alloc (.cells #[.slice p1 n1 c1] 35)).alloc (.cells #[.slice p2 n2 c2] 22)).alloc (.cells #[.int .i64 0] 3)) (w1.heap.size + 1 + 1) [.int .i64 0] 3 := by
    have := VarAt.new ((w1.alloc (.cells #[.slice p1 n1 c1] 35)).alloc (.cells #[.slice p2 n2 c2] 22)) [.int .i64 0] 3
    rw [World.size_alloc, World.size_alloc] at this
    exact this
  have t4 := hid (h2.out.keep b4)
  generalize hW4 : ((w1.alloc (.cells #[.slice p1 n1 c1] 35)).alloc (.cells #[.slice p2 n2 c2] 22)).alloc (.cells #[.int .i64 0] 3) = W4 at *
  clear C
  gi_wp2_with (refine ⟨trivial, ?_⟩; gi_at_call 40; refine (callsIn_wide.2 D0.out).mono ?_; rintro e w2 ⟨k1, k2, p3, n3, c3, l', bb, rfl, a1, a2, a3, a4, a5, a6, a7⟩; replace a7 := hid a7)
  have z2 := a7.out.size
  have eN : (flatL 0 l').length = (flatL 0 l).length := flatL_bare_len 0 l l' a5
  have ht' : (rowT l').length ≤ 2000000 := by rw [← rowT_bare l', a5, rowT_bare]; exact ht
  have hS := fun n' => all1_seq (fun b => b = w1.heap.size + 1 + 1) (fun g => W4.heap.size ≤ g) (fun b hb h => by omega) l' k1 k2 p3 n3 c3 bb w2 (fun b hb => by omega) a3 a4 (by omega) (by omega) (a6.mono (fun g hg _ => hg.1)) ht' n'
  have b3w : Below w.heap.size w w1 := Below.over b3 h2.out.bel
  have zw : w.heap.size + 3 ≤ w1.heap.size := by
    have := h2.out.bel.size
    simpa only [World.size_alloc] using this
  have bb3 : Below (((w.alloc (.cells #[.int .i64 most] 3)).alloc (.cells #[.int .i64 0] 3)).alloc (.cells #[.bool false] 4)).heap.size (((w.alloc (.cells #[.int .i64 most] 3)).alloc (.cells #[.int .i64 0] 3)).alloc (.cells #[.bool false] 4)) w2 := Below.over h2.out.bel (Below.over b4 a7.out)
  have v3 : VarAt w2 w.heap.size [.int .i64 most] 3 := (((VarAt.new w [.int .i64 most] 3).kept ((Below.refl _ _).alloc (Nat.le_refl _) _)).kept ((Below.refl _ _).alloc (Nat.le_refl _) _)).kept bb3
  have v4 : VarAt w2 (w.heap.size + 1) [.int .i64 0] 3 := by
    have := ((VarAt.new (w.alloc (.cells #[.int .i64 most] 3)) [.int .i64 0] 3).kept ((Below.refl _ _).alloc (Nat.le_refl _) (.cells #[.bool false] 4))).kept bb3
    rw [World.size_alloc] at this
    exact this
  have v5 : VarAt w2 (w.heap.size + 1 + 1) [.bool false] 4 := by
    have := (VarAt.new ((w.alloc (.cells #[.int .i64 most] 3)).alloc (.cells #[.int .i64 0] 3)) [.bool false] 4).kept bb3
    rw [World.size_alloc, World.size_alloc] at this
    exact this
  clear bb3
  have v6 := u6.kept a7.out
  have v7 := u7.kept a7.out
  have v8 := u8.kept a7.out
  replace hS := hid hS
  refine wpIn_range rfl rfl (gf := 48) (lb := #[.pointer (some ⟨k1, 0, none⟩), .pointer (some ⟨k2, 0, none⟩)]) rfl trivial (enters_of Try.func48 (by kernel_rfl) rfl) hS.out (fun b hb => by omega) (fun k args W h => by obtain ⟨x, s, _, rfl, _⟩ := h; rfl)
    (fun k X => Touch (fun b => b = w1.heap.size + 1 + 1) w2 X ∧ VarAt X (w1.heap.size + 1 + 1) [.int .i64 k] 3 ∧ (k : Int) ≤ max most 0) (fun c X => c = .exit 0 ∧ ∃ k : Nat, k < (flatL 0 l').length ∧ most ≤ k ∧ Touch (fun b => b = w1.heap.size + 1 + 1) w2 X ∧ VarAt X (w1.heap.size + 1 + 1) [.int .i64 k] 3 ∧ (k : Int) ≤ max most 0) ?hI ?hIx ⟨Touch.refl _ _, v8, by omega⟩
    (fun k a' X => ∃ (x : Int × St) (s : St) (b10 : Nat), (flatL 0 l')[k]? = some x ∧ s.bare = x.2.bare ∧ s.ok X (fun g => g ≠ w2.heap.size + 1) ∧ w2.heap.size + 2 ≤ b10 ∧ VarAt X b10 s.cells 52 ∧ a' = { tmps := (.slice pv l.length cv :: .int .i64 most :: undef :: .pointer (some ⟨w.heap.size, 0, none⟩) :: .pointer (some ⟨w.heap.size + 1, 0, none⟩) :: .pointer (some ⟨w.heap.size + 1 + 1, 0, none⟩) :: .pointer (some ⟨w1.heap.size, 0, none⟩) :: .pointer (some ⟨w1.heap.size + 1, 0, none⟩) :: .pointer (some ⟨w1.heap.size + 1 + 1, 0, none⟩) :: .int .i64 x.1 :: .pointer (some ⟨b10, 0, none⟩) :: .tuple #[.slice p1 n1 c1, .slice p2 n2 c2] :: .slice pv l.length cv :: .tuple #[.slice p1 n1 c1, .slice p2 n2 c2] :: .slice p1 n1 c1 :: .slice p2 n2 c2 :: .slice pv l.length cv :: .func (.func 48) #[] #[.pointer (some ⟨k1, 0, none⟩), .pointer (some ⟨k2, 0, none⟩)] :: .int .i64 x.1 :: .agg s.cells.toArray :: undef :: undef :: undef :: undef :: undef :: undef :: undef :: undef :: undef :: undef :: undef :: undef :: undef :: undef :: undef :: undef :: undef :: undef :: undef :: undef :: undef :: undef :: undef :: undef :: undef :: undef :: undef :: undef :: undef :: undef :: undef :: undef :: undef :: undef :: undef :: undef :: undef :: undef :: undef :: []).toArray, defers := [] }) ?hA ?assign ?body ?done ?stop
  case hI =>
    rintro k X X' ⟨h1, h3, h4⟩ hb
    exact ⟨h1.stays hb (Nat.le_refl _), (hb.block _ (by omega)).trans h3, h4⟩
  case hIx =>
    rintro c X X' ⟨e, k, h0, h5, h1, h3, h4⟩ hb
    exact ⟨e, k, h0, h5, h1.stays hb (Nat.le_refl _), (hb.block _ (by omega)).trans h3, h4⟩
  case hA =>
    rintro k a' X X' ⟨x, s, b10, e1, e2, e3, e4, e5, e6⟩ hb hs
    exact ⟨x, s, b10, e1, e2, e3.keep (fun g hg _ => hb g hg), e4, (hb b10 (by omega)).trans e5, e6⟩
  case assign =>
    rintro lp2 k args X K ⟨x, s, hx, rfl, hsb, hso⟩ hsz hK
    have one := hid hso.hd.one
    clear hS
    unfold St.val
    gi_wp2_with (refine wli_store_new 52 _ _ rfl rfl X 52 _ rfl X.heap.size rfl rfl s.cells rfl s.agg rfl one.out ?_)
    exact hK _ _ ((Below.refl _ _).alloc (Nat.le_refl _) _) ⟨x, s, X.heap.size, hx, hsb, hso.kept ((Below.refl _ _).alloc (Nat.le_refl _) _), by omega, VarAt.new X s.cells 52, rfl⟩
  case body =>
    rintro lp2 k a' X ⟨hT, hn8, hkm⟩ hk ⟨x, s, b10, hx, hsb, hso, hb10, hV10, rfl⟩ hsz
    have c8 := hn8.cell 0 (v := .int .i64 k) rfl
    have c3 := (v3.touch hT (by omega)).cell 0 (v := .int .i64 most) rfl
    have d8 := hn8.frozen 0
    have bX : Below w1.heap.size w1 X := (Below.over b4 a7.out).trans (hT.below (fun i hi => ⟨by omega, by omega⟩))
    obtain ⟨y, hy⟩ : ∃ y, (flatL 0 l)[k]? = some y := ⟨_, List.getElem?_eq_getElem (by omega)⟩
    obtain ⟨exy, ebare⟩ := flatL_bare_get 0 l l' a5 k x y hx hy
    have r1 := (RowAt.of_owns (F := fun g => g < w1.heap.size) h2.out.o1 (by simp; omega) (fun g hg => (own_lt h2.out.o1 hg).2)).keep (w' := X) (fun g hg _ => bX.block g hg)
    have r2 := (RowAt.of_owns (F := fun g => g < w1.heap.size) h2.out.o2 (by simp; omega) (fun g hg => (own_lt h2.out.o2 hg).2)).keep (w' := X) (fun g hg _ => bX.block g hg)
    obtain ⟨g1, cp1, ev1, _, _, hr1⟩ := RowAt.elem St.len r1 (k := k) (x := y.2) (by simp [hy])
    obtain ⟨g2, cp2, ev2, _, _, hr2⟩ := RowAt.elem (f := intC) (s := 1) (fun x => rfl) r2 (k := k) (x := y.1) (by simp [hy])
    obtain ⟨rfl, en1, rfl⟩ := Value.slice.inj ev1
    obtain ⟨rfl, en2, rfl⟩ := Value.slice.inj ev2
    simp only [List.length_map] at en1 en2
    have hmy := List.mem_of_getElem? hy
    have ty : y.2.ok X (fun _ => True) := ((flatL_ok 0 hl.2 y hmy).kept (Below.trans b3w (bX.mono (by omega)))).mono (fun _ _ _ => trivial)
    have sy : s.ok X (fun _ => True) := hso.mono (fun _ _ _ => trivial)
    have eb : s.bare = y.2.bare := hsb.trans ebare
    have lt : (rowT [s]).length ≤ 2000000 := by
      rw [rowT1_bare eb]
      exact Nat.le_trans (flatL_texts2 l 0 y hmy) ht
    have cd : X.cell? ⟨g2, k, none⟩ = some (.int .i64 x.1) := by
      have := hr2 0 (.int .i64 y.1) rfl
      rw [exy]
      simpa using this
    have t6 := hid (v6.touch hT (by omega))
    have t7 := hid (v7.touch hT (by omega))
    have t10 := hid hV10
    have kn1 : k < n1 := by omega
    have kn2 : k < n2 := by omega
    have n1b : n1 < 140737488355328 := by omega
    have e8 : wrap64 ((k : Int) + 1) = ((k + 1 : Nat) : Int) := by unfold wrap64; omega
    replace hr1 := hid hr1
    replace cd := hid cd
    replace sy := hid sy
    replace ty := hid ty
    replace eb := hid eb
    replace lt := hid lt
    replace zw := hid zw
    replace exy := hid exy
    replace en1 := hid en1
    replace en2 := hid en2
    replace ebare := hid ebare
    replace hsb := hid hsb
    clear hS r1 r2 ev1 ev2 hr2
    by_cases hbr : most ≤ (k : Int)
    · have hbd : decide (most ≤ (k : Int)) = true := decide_eq_true hbr
      gi_wp2
      exact ⟨Touch.refl _ _, rfl, k, hk, hbr, hT, hn8, hkm⟩
    · have hbd : decide (most ≤ (k : Int)) = false := decide_eq_false hbr
      have kk := hid (nextK k most hbr)
      gi_wp2_with fail
      refine gone7 X w1.heap.size (w1.heap.size + 1) (w1.heap.size + 1 + 1) b10 g1 g2 k n1 n2 c1 c2 x.1 s y.2 _ _ _ _ _ _ _ _ _ _ _ _ _ _ _ _ _ _ _ _ _ _ _ _ _ _ _ _ _ _ _ _ _ _ _ _ _ _ _ _ _ _ _ _ _ _ _ _ _ _ _ _ _ _ t6.out t7.out hn8 t10.out kn1 kn2 n1b cd.out hr1.out sy.out ty.out eb.out lt.out ?ho ?hp ?_
      case ho => exact fun ⟨a, w, h⟩ => h
      case hp => exact fun c a a' w h => h
      intro x23 x24 x25 x26 x27 x28 x29 x30 x31 x32 x33 x34 x35 x36 x37 x38 x39 x40 x41 x42 x43 x44 x45 x46 X' hb'
      have n8 := hn8.kept hb'
      have c8' := n8.cell 0 (v := .int .i64 k) rfl
      have d8' := n8.frozen 0
      clear c8 d8 c3
      replace hn8 := hid hn8
      replace n8 := hid n8
      replace hb' := hid hb'
      replace hT := hid hT
      replace hbr := hid hbr
      clear hW4 t4 h2 u6 v6 u7 v7 u8 v8 v3 v4 v5 t6 t7 t10 hr1 cd sy ty eb lt exy en1 en2 ebare hsb hbd kn1 kn2 n1b hmy hy hso hV10 hx bX hsz hb10 a3 a4 a5 a6 a7 eN ht' b3w D0 b3 hl b4
      gi_wp2_with fail
      have t := turnN hb'.out (w1.heap.size + 1 + 1) (.int .i64 ((k : Int) + 1))
      exact ⟨t, hT.out.trans t, nextN n8.out, kk.out⟩
  case done =>
    rintro D X ⟨h1, h3, h4⟩ hD hK
    obtain ⟨k, hkN⟩ : ∃ k, k = (flatL 0 l').length := ⟨_, rfl⟩
    rw [← hkN] at h3 h4
    have x3 := hid (v3.touch h1 (by omega))
    have x4 := hid (v4.touch h1 (by omega))
    have x5 := hid (v5.touch h1 (by omega))
    have x6 := hid (v6.touch h1 (by omega))
    have eN1 : n1 = (flatL 0 l).length := by
      have := (RowAt.of_owns (F := fun _ => True) h2.out.o1 (by simp; omega) (fun _ _ => trivial)).form
      obtain ⟨_, _, e⟩ := this
      obtain ⟨_, e, _⟩ := Value.slice.inj e
      simpa using e
    have ek : (k : Int) = min (max most 0) n1 := by omega
    have q1 : Below w.heap.size w w2 := Below.over b3w (Below.over b4 a7.out)
    replace eN1 := hid eN1
    replace ek := hid ek
    replace h1 := hid h1
    replace h3 := hid h3
    replace q1 := hid q1
    clear hW4 t4 h2 u6 v6 u7 v7 u8 v8 v3 v4 v5 hS D0 b3 b3w b4 a3 a4 a5 a6 a7 eN ht' hl h4 hkN
    gi_wp2_with fail
    refine wpIn_calm (wpIn_wide.2 ?_)
    refine gone10 X w.heap.size (w.heap.size + 1) (w.heap.size + 1 + 1) w1.heap.size (w1.heap.size + 1 + 1) k n1 c1 p1 most _ _ _ _ _ _ _ _ _ _ _ _ _ _ _ _ _ _ _ _ _ _ _ _ _ _ _ _ _ _ _ _ _ _ _ _ _ _ _ _ _ _ _ _ _ _ _ _ _ _ _ _ _ _ _ x3.out x4.out x5.out x6.out h3.out (by omega) (by omega) (by omega) (by omega) (by omega) (by omega) (by omega) ek.out ?hp ?_
    case hp => exact fun c a a' w h => h
    intro x51 x52 x53 x54 x55 x56 x57 x58 X' g4 g5 gt
    have hK' : X'.heap[D]? = some (.deferred (some [])) := (gt.block D (Array.getElem?_eq_some_iff.1 hK).1 (by omega)).trans hK
    replace g4 := hid g4
    replace g5 := hid g5
    replace gt := hid gt
    gi_wp2_with fail
    have hb := below_putObj X' D (.deferred none) hD
    refine ⟨by simp, .inl ⟨_, _, rfl, run_takeDeferred hK', ?_⟩⟩
    refine ⟨_, results_cells rfl _ _ (w.heap.size + 1) (w.heap.size + 1 + 1) (.int .i64 k) (.bool true) rfl rfl (loadVar3 _ _ _ ((hb.block _ (by omega)).trans g4.out)) (loadVar4 _ _ _ ((hb.block _ (by omega)).trans g5.out)), ?_, ?_⟩
    · rw [ek.out, eN1.out]
    · have q2 : Below w.heap.size w2 X := h1.out.below (fun i hi => ⟨by omega, by omega⟩)
      have q3 : Below w.heap.size X X' := gt.out.below (fun i hi => ⟨by have := h1.out.size; omega, by omega⟩)
      exact ((q1.out.trans q2).trans q3).trans (hb.mono (by omega))
  case stop =>
    rintro D c X ⟨rfl, k, hk, hbr, h1, h3, h4⟩ hD hK
    have x3 := hid (v3.touch h1 (by omega))
    have x4 := hid (v4.touch h1 (by omega))
    have x5 := hid (v5.touch h1 (by omega))
    have x6 := hid (v6.touch h1 (by omega))
    have eN1 : n1 = (flatL 0 l).length := by
      have := (RowAt.of_owns (F := fun _ => True) h2.out.o1 (by simp; omega) (fun _ _ => trivial)).form
      obtain ⟨_, _, e⟩ := this
      obtain ⟨_, e, _⟩ := Value.slice.inj e
      simpa using e
    have ek : (k : Int) = min (max most 0) n1 := by omega
    have q1 : Below w.heap.size w w2 := Below.over b3w (Below.over b4 a7.out)
    replace eN1 := hid eN1
    replace ek := hid ek
    replace h1 := hid h1
    replace h3 := hid h3
    replace q1 := hid q1
    clear hW4 t4 h2 u6 v6 u7 v7 u8 v8 v3 v4 v5 hS D0 b3 b3w b4 a3 a4 a5 a6 a7 eN ht' hl h4 hk hbr
    gi_wp2_with fail
    refine wpIn_calm (wpIn_wide.2 ?_)
    refine gone10 X w.heap.size (w.heap.size + 1) (w.heap.size + 1 + 1) w1.heap.size (w1.heap.size + 1 + 1) k n1 c1 p1 most _ _ _ _ _ _ _ _ _ _ _ _ _ _ _ _ _ _ _ _ _ _ _ _ _ _ _ _ _ _ _ _ _ _ _ _ _ _ _ _ _ _ _ _ _ _ _ _ _ _ _ _ _ _ _ x3.out x4.out x5.out x6.out h3.out (by omega) (by omega) (by omega) (by omega) (by omega) (by omega) (by omega) ek.out ?hp ?_
    case hp => exact fun c a a' w h => h
    intro x51 x52 x53 x54 x55 x56 x57 x58 X' g4 g5 gt
    have hK' : X'.heap[D]? = some (.deferred (some [])) := (gt.block D (Array.getElem?_eq_some_iff.1 hK).1 (by omega)).trans hK
    replace g4 := hid g4
    replace g5 := hid g5
    replace gt := hid gt
    gi_wp2_with fail
    have hb := below_putObj X' D (.deferred none) hD
    refine ⟨by simp, .inl ⟨_, _, rfl, run_takeDeferred hK', ?_⟩⟩
    refine ⟨_, results_cells rfl _ _ (w.heap.size + 1) (w.heap.size + 1 + 1) (.int .i64 k) (.bool true) rfl rfl (loadVar3 _ _ _ ((hb.block _ (by omega)).trans g4.out)) (loadVar4 _ _ _ ((hb.block _ (by omega)).trans g5.out)), ?_, ?_⟩
    · rw [ek.out, eN1.out]
    · have q2 : Below w.heap.size w2 X := h1.out.below (fun i hi => ⟨by omega, by omega⟩)
      have q3 : Below w.heap.size X X' := gt.out.below (fun i hi => ⟨by have := h1.out.size; omega, by omega⟩)
      exact ((q1.out.trans q2).trans q3).trans (hb.mono (by omega))
end Go.Proofs.Ytfdfeiempeciiaa

/- How many statements a program that is made of numbers has: 60 at most. No Go in it. -/
namespace Go.Proofs.Ytfdfeiempeciiaa
open Go.ChangeShapes Go.WideShapes Go.ChangeAt Go.RowKit
set_option linter.unusedVariables false

theorem rows_len (l : List St) (h : ∀ s ∈ l, ∀ d d', (s.flat d).length = (s.flat d').length) (d d' : Int) : (flatL d l).length = (flatL d' l).length := by
  induction l with
  | nil => rfl
  | cons a l ih =>
    have h1 := h a (by simp) d d'
    have h2 := ih (fun s hs => h s (by simp [hs]))
    simp only [flatL, List.flatMap_cons, List.length_append] at h1 h2 ⊢
    omega
theorem flat_lenD (s : St) : ∀ d d', (s.flat d).length = (s.flat d').length := by
  induction s using St.ind with
  | h s ih1 ih2 =>
    intro d d'
    rw [St.flat_eq, St.flat_eq]
    simp only [List.length_cons, List.length_append]
    rw [rows_len s.body (fun k hk => ih1 k hk) _ (wrap64 (d' + 1)), rows_len s.els (fun k hk => ih2 k hk) _ (wrap64 (d' + 1))]
theorem flatL_len0 (l : List St) (d : Int) : (flatL d l).length = (flatL 0 l).length := rows_len l (fun s _ => flat_lenD s) d 0
/-- How many statements. -/
def cnt (l : List St) : Nat := (flatL 0 l).length
theorem cnt_nil : cnt [] = 0 := rfl
theorem cnt_app (l m : List St) : cnt (l ++ m) = cnt l + cnt m := by simp [cnt, flatL_app]
theorem cnt_cons (s : St) (l : List St) : cnt (s :: l) = 1 + cnt s.body + cnt s.els + cnt l := by
  unfold cnt
  rw [flatL_cons]
  simp only [List.length_cons, List.length_append]
  rw [flatL_len0 s.body, flatL_len0 s.els]
  omega
theorem stmtO_cnt (N : List Int) (row : Nat → Nat → (List St × Nat) × Nat) (hr : ∀ i l, cnt (row i l).1.1 + (row i l).2 ≤ l) (o i l : Nat) : cnt (stmtO N row o i l).1.1.body + cnt (stmtO N row o i l).1.1.els + (stmtO N row o i l).2 ≤ l := by
  have h0 := cnt_nil
  unfold stmtO
  repeat' split
  all_goals simp only [St.zero, h0]
  all_goals first
    | omega
    | (have := hr i l; omega)
    | (have := hr (exprM N 2 i).2 l; omega)
    | (have a1 := hr (exprM N 2 i).2 l; have a2 := hr (nx N (row (exprM N 2 i).2 l).1.2) (row (exprM N 2 i).2 l).2; omega)
    | (have := hr (nx N (nx N (nx N i))) l; omega)
    | (have := hr (nx N (nx N i)) l; omega)
theorem rowF_cnt (stmt : Nat → Nat → (St × Nat) × Nat) (hs : ∀ i l, cnt (stmt i l).1.1.body + cnt (stmt i l).1.1.els + (stmt i l).2 ≤ l) (n : Nat) : ∀ i l, cnt (rowF stmt n i l).1.1 + (rowF stmt n i l).2 ≤ l := by
  induction n with
  | zero => intro i l; simp [rowF, cnt_nil]
  | succ n ih =>
    intro i l
    unfold rowF
    split
    · simp [cnt_nil]
    · have h1 := hs i (l - 1)
      have h2 := ih (stmt i (l - 1)).1.2 (stmt i (l - 1)).2
      simp only [cnt_cons]
      omega
theorem rowM_cnt (N : List Int) (d : Nat) : ∀ i l, cnt (rowM N d i l).1.1 + (rowM N d i l).2 ≤ l := by
  induction d with
  | zero =>
    intro i l
    unfold rowM
    exact rowF_cnt _ (fun i l => stmtO_cnt N _ (fun i l => by simp [cnt_nil]) _ _ _) _ _ _
  | succ d ih =>
    intro i l
    unfold rowM
    exact rowF_cnt _ (fun i l => stmtO_cnt N _ ih _ _ _) _ _ _
theorem funsM_cnt (N : List Int) (k : Nat) : ∀ i l, ((funsM N k i l).1.1.map (fun f => cnt f.body)).sum + (funsM N k i l).2 ≤ l := by
  induction k with
  | zero => intro i l; simp [funsM]
  | succ k ih =>
    intro i l
    have h1 := rowM_cnt N 2 (namesM N 3 (nx N i)).2 l
    have h2 := ih (rowM N 2 (namesM N 3 (nx N i)).2 l).1.2 (rowM N 2 (namesM N 3 (nx N i)).2 l).2
    simp only [funsM, List.map_cons, List.sum_cons]
    omega
theorem thsM_cnt (N : List Int) (k : Nat) : ∀ i l, ((thsM N k i l).1.1.map (fun f => cnt f.body)).sum + (thsM N k i l).2 ≤ l := by
  induction k with
  | zero => intro i l; simp [thsM]
  | succ k ih =>
    intro i l
    have h1 := rowM_cnt N 3 i l
    have h2 := ih (rowM N 3 i l).1.2 (rowM N 3 i l).2
    simp only [thsM, List.map_cons, List.sum_cons]
    omega
theorem makeM_cnt (N : List Int) : ((makeM N).funs.map (fun f => cnt f.body)).sum + ((makeM N).threads.map (fun f => cnt f.body)).sum ≤ 60 := by
  have h1 := funsM_cnt N (pk N 3 (globsN N).2) (nx N (globsN N).2) 60
  have h2 := thsM_cnt N (pk N 4 (funsN N).1.2) (nx N (funsN N).1.2) (funsN N).2
  simp only [makeM]
  simp only [thsN, funsN] at *
  omega
theorem cnt_bare (l : List St) : cnt (l.map St.bare) = cnt l := by
  have := flatL_bare_len 0 (l.map St.bare) l (by rw [List.map_map]; exact List.map_congr_left (fun x _ => (St.bare_bare x).symm))
  exact this.symm
theorem Pg.cnt_funs (p : Pg) : p.bare.funs.map (fun f => cnt f.body) = p.funs.map (fun f => cnt f.body) := by
  simp only [Pg.bare, List.map_map]
  exact List.map_congr_left (fun f _ => by simp [Fn.bare, cnt_bare])
theorem Pg.cnt_ths (p : Pg) : p.bare.threads.map (fun f => cnt f.body) = p.threads.map (fun f => cnt f.body) := by
  simp only [Pg.bare, List.map_map]
  exact List.map_congr_left (fun f _ => by simp [Th.bare, cnt_bare])
theorem MakeOut.cnts {w w' : World} {N : List Int} {p : Pg} (h : MakeOut w w' N p) : (p.funs.map (fun f => cnt f.body)).sum + (p.threads.map (fun f => cnt f.body)).sum ≤ 60 := by
  rw [← Pg.cnt_funs, ← Pg.cnt_ths, h.bare]
  exact makeM_cnt N
theorem mem_sum_le {α : Type} (g : α → Nat) (l : List α) (x : α) (h : x ∈ l) : g x ≤ (l.map g).sum := by
  induction l with
  | nil => simp at h
  | cons a l ih =>
    simp only [List.map_cons, List.sum_cons]
    simp only [List.mem_cons] at h
    rcases h with rfl | h
    · omega
    · have := ih h
      omega
theorem MakeOut.cnt_th {w w' : World} {N : List Int} {p : Pg} (h : MakeOut w w' N p) : ∀ t ∈ p.threads, cnt t.body ≤ 60 := fun t ht => by
  have h1 := h.cnts
  have h2 := mem_sum_le (fun f : Th => cnt f.body) p.threads t ht
  omega
theorem MakeOut.cnt_fn {w w' : World} {N : List Int} {p : Pg} (h : MakeOut w w' N p) : ∀ t ∈ p.funs, cnt t.body ≤ 60 := fun t ht => by
  have h1 := h.cnts
  have h2 := mem_sum_le (fun f : Fn => cnt f.body) p.funs t ht
  omega
end Go.Proofs.Ytfdfeiempeciiaa

/- For TreeRows: rows put one behind the other. -/
namespace Go.Proofs.Ytfdfeiempeciiaa
open Go.ChangeShapes Go.WideShapes Go.ChangeAt Go.RowKit
set_option linter.unusedVariables false

theorem Pg.ones {w : World} {F : Nat → Prop} (p : Pg) (h : p.ok w F) : ∀ v ∈ p.cells, v.oneCell' = true := by
  intro v hv
  simp only [Pg.cells, List.mem_cons, List.not_mem_nil, or_false] at hv
  rcases hv with rfl | rfl | rfl | rfl
  · exact h.1.1.one
  · exact h.2.1.1.one
  · exact h.2.2.1.1.one
  · exact h.2.2.2.1.one
theorem rows_texts {w w' : World} {F G : Nat → Prop} {v u : Value} (a b : List St) (ha : stsOk w F v a) (hb : stsOk w' G u b) : sameT (rowT a) (rowT b) = eqL St.same a b := by
  have := rowT_same a b ha hb [] []
  simpa [sameT, eqL] using this
theorem eqL_app {α β : Type} (p : α → β → Bool) : ∀ (a : List α) (b : List β) (c : List α) (d : List β), a.length = b.length → eqL p (a ++ c) (b ++ d) = (eqL p a b && eqL p c d)
  | [], [], c, d, _ => by simp [eqL]
  | x :: a, y :: b, c, d, h => by
    simp only [List.length_cons, Nat.add_right_cancel_iff] at h
    simp only [List.cons_append, eqL]
    rw [eqL_app p a b c d h, Bool.and_assoc]
  | [], y :: b, c, d, h => by simp at h
  | x :: a, [], c, d, h => by simp at h
theorem sameT_symm : ∀ (a b : List ByteArray), sameT a b = true → sameT b a = true
  | [], [], _ => rfl
  | x :: a, y :: b, h => by
    rw [sameT_cons] at h ⊢
    simp only [Bool.and_eq_true, beq_iff_eq] at h ⊢
    exact ⟨h.1.symm, sameT_symm a b h.2⟩
  | [], y :: b, h => by simp [sameT, eqL] at h
  | x :: a, [], h => by simp [sameT, eqL] at h
theorem rows_symm {w w' : World} {F G : Nat → Prop} {v u : Value} (a b : List St) (ha : stsOk w F v a) (hb : stsOk w' G u b) (h : eqL St.same a b = true) : eqL St.same b a = true := by
  rw [← rows_texts a b ha hb] at h
  rw [← rows_texts b a hb ha]
  exact sameT_symm _ _ h
theorem eqL_len_of {α β : Type} (p : α → β → Bool) (l : List α) (m : List β) (h : eqL p l m = true) : l.length = m.length := by
  by_cases e : l.length = m.length
  · exact e
  · rw [eqL_len p l m e] at h
    cases h
theorem rows_turned {w w' : World} {F G : Nat → Prop} {v u : Value} (a b : List St) (ha : stsOk w F v a) (hb : stsOk w' G u b) (h : eqL St.same a b = true) : eqL St.same (a ++ b) (b ++ a) = true := by
  rw [eqL_app _ a b b a (eqL_len_of _ _ _ h), h, rows_symm a b ha hb h]
  rfl
/-- A row of the call's own. -/
structure RowOwn (W w' : World) (v : Value) (l : List St) : Prop where
  own : w'.ownsRow W.heap.size 52 58 v l.length (l.flatMap St.cells)
  bel : Below W.heap.size W w'
theorem RowOwn.sts {W w' : World} {v : Value} {l : List St} (h : RowOwn W w' v l) (hl : l.length ≤ 2000000) {F : Nat → Prop} (ho : ∀ s ∈ l, s.ok W F) : stsOk w' (fun _ => True) v l :=
  ⟨RowAt.of_owns h.own (by omega) (fun _ _ => trivial), fun k hk => ((ho k hk).kept h.bel).mono (fun _ _ _ => trivial)⟩
theorem grown_below {W W1 w' : World} {row : Option Nat} {B : Nat} (b : Below B W W1) (h : W1.grownBy w' row) (hr : ∀ g, row = some g → B ≤ g) (hB : B ≤ W1.heap.size) : Below B W w' :=
  b.trans ⟨h.os, h.tape, h.output, h.size, fun i hi => h.block i (by omega) (fun e => by have := hr i e.symm; omega)⟩
theorem sts_ones {w : World} {F : Nat → Prop} {v : Value} {l : List St} (h : stsOk w F v l) : ∀ x ∈ l.flatMap St.cells, x.oneCell' = true := sts_one h.2
section
variable {ops : Array Oper} {rest : List Oper} {o : Oper} {a : Act} {Q : Exit → Act → World → Prop}
theorem wl_rows1 (hgd : o.guard = none) (s x : Operand) (ho : o.op = .call { callee := .builtin .append, args := #[s, x], argTypes := #[35, 35] }) (W : World) (hs : a.eval s = .slice (some ⟨W.heap.size, 0, none⟩) 0 0) (u : Value) (hx : a.eval x = u)
    (F : Nat → Prop) (l : List St) (hu : stsOk W F u l) (hl : l.length ≤ 1000000) (h : ∀ v' w', RowOwn W w' v' l → wpList Try.prog ops Q rest (a.put o.dst v') w') : wpList Try.prog ops Q (o :: rest) a (W.alloc (.cells #[] 52)) := by
  have ba : Below W.heap.size W (W.alloc (.cells #[] 52)) := (Below.refl _ _).alloc (Nat.le_refl _) _
  refine wl_append_row hgd s x 35 ho W.heap.size 52 St.zero.val 58 688 Try.underlying35 info52 rfl (by decide) _ hs 0 [] (own_empty W 52 58) u hx F l.length (l.flatMap St.cells) (hu.kept ba).1 (sts_ones hu) (by omega) (by decide) ba.size ?_
  intro v' w' h1 h2 h3
  refine h v' w' ⟨?_, grown_below ba h2 (fun g hg => by simp [Value.ownBlock] at hg; omega) ba.size⟩
  simpa using h1
theorem wl_rows2 (hgd : o.guard = none) (s x : Operand) (ho : o.op = .call { callee := .builtin .append, args := #[s, x], argTypes := #[35, 35] }) (W w : World) (v : Value) (hs : a.eval s = v) (l : List St) (hr : RowOwn W w v l) (u : Value) (hx : a.eval x = u)
    (F : Nat → Prop) (m : List St) (hu : stsOk W F u m) (hl : l.length ≤ 1000000) (hm : m.length ≤ 1000000) (h : ∀ v' w', RowOwn W w' v' (l ++ m) → wpList Try.prog ops Q rest (a.put o.dst v') w') : wpList Try.prog ops Q (o :: rest) a w := by
  refine wl_append_row hgd s x 35 ho W.heap.size 52 St.zero.val 58 688 Try.underlying35 info52 rfl (by decide) v hs l.length (l.flatMap St.cells) hr.own u hx F m.length (m.flatMap St.cells) (hu.kept hr.bel).1 (sts_ones hu) (by omega) (by decide) hr.bel.size ?_
  intro v' w' h1 h2 h3
  refine h v' w' ⟨?_, grown_below hr.bel h2 (fun g hg => (own_lt hr.own hg).1) hr.bel.size⟩
  simpa using h1
end
theorem goneN (l : List St) (v : Value) (w : World) (F : Nat → Prop) (hl : stsOk w F v l) (ht : (rowT l).length ≤ 2000000) (hn : cnt l ≤ 1000) :
    Calls Try.prog 17 #[v, .int .i64 1000] w fun e w' => e = .returned (.tuple #[.int .i64 (cnt l), .bool true]) ∧ Below w.heap.size w w' := by
  have := gone_any l v 1000 w F hl ht (by unfold cnt at hn; omega) (by unfold I64; omega)
  rw [show min (max (1000 : Int) 0) ((flatL 0 l).length : Int) = (cnt l : Int) by unfold cnt at *; omega] at this
  exact this
theorem rowT_app (l m : List St) : (rowT (l ++ m)).length + 2 = (rowT l).length + (rowT m).length := by
  simp only [rowT, List.flatMap_append, List.length_append, List.length_cons, List.length_nil]
  omega
theorem rowT_len (l : List St) : l.length + 2 ≤ (rowT l).length := by
  have h : l.length ≤ (l.flatMap St.texts).length := by
    induction l with
    | nil => simp
    | cons a l ih =>
      have := St.texts_len a
      simp only [List.flatMap_cons, List.length_append, List.length_cons]
      omega
  simp only [rowT, List.length_append, List.length_cons, List.length_nil]
  omega
def ex1 : Ex := { Ex.zero with n := 1 }
def ex2 : Ex := { Ex.zero with n := 1, line := 4 }
theorem ex12 : eqL Ex.same [ex1] [ex2] = true := by
  have : ex1.same ex2 = true := by rw [Ex.same_eq]; simp [ex1, ex2, Ex.zero, eqL]
  simp [eqL, this]
theorem ex1_ok (w : World) (F : Nat → Prop) : ex1.ok w F := (Ex.ok_iff _ _ _).2 ⟨by simp [ex1, Ex.zero, I64, U64], RowAt.nil _ _ _, by simp [ex1, Ex.zero]⟩
theorem ex2_ok (w : World) (F : Nat → Prop) : ex2.ok w F := (Ex.ok_iff _ _ _).2 ⟨by simp [ex2, Ex.zero, I64, U64], RowAt.nil _ _ _, by simp [ex2, Ex.zero]⟩
theorem exprs12 (w : World) : Calls Try.prog 21 #[.slice (some ⟨w.heap.size, 0, none⟩) 1 1, .slice (some ⟨w.heap.size + 1, 0, none⟩) 1 1] ((w.alloc (.cells ex1.cells.toArray 46)).alloc (.cells ex2.cells.toArray 46)) fun e w' => e = .returned (.bool true) ∧ Below w.heap.size w w' := by
  have b1 : Below (w.alloc (.cells ex1.cells.toArray 46)).heap.size (w.alloc (.cells ex1.cells.toArray 46)) ((w.alloc (.cells ex1.cells.toArray 46)).alloc (.cells ex2.cells.toArray 46)) := (Below.refl _ _).alloc (Nat.le_refl _) _
  have r1 : RowAt ((w.alloc (.cells ex1.cells.toArray 46)).alloc (.cells ex2.cells.toArray 46)) (fun _ => True) 9 (.slice (some ⟨w.heap.size, 0, none⟩) 1 1) 1 ex1.cells := (RowAt.made w ex1.cells 46 (fun _ => True) trivial 9 ex1.len).kept b1
  have r2 : RowAt ((w.alloc (.cells ex1.cells.toArray 46)).alloc (.cells ex2.cells.toArray 46)) (fun _ => True) 9 (.slice (some ⟨w.heap.size + 1, 0, none⟩) 1 1) 1 ex2.cells := by
    have := RowAt.made (w.alloc (.cells ex1.cells.toArray 46)) ex2.cells 46 (fun _ => True) trivial 9 ex2.len
    rw [World.size_alloc] at this
    exact this
  have := exprs_any [ex1] [ex2] _ _ _ (fun _ => True) (fun _ => True) ⟨by simpa using r1, fun k hk => by simp at hk; subst hk; exact ex1_ok _ _⟩ ⟨by simpa using r2, fun k hk => by simp at hk; subst hk; exact ex2_ok _ _⟩
  rw [ex12] at this
  exact this.mono (fun e w' h => ⟨h.1, Below.over (below_two w _ _) h.2⟩)
theorem thsM_rows (N : List Int) (k : Nat) : ∀ i l, ∀ t ∈ (thsM N k i l).1.1, (rowT t.body).length ≤ 325565 := by
  induction k with
  | zero => intro i l t ht; simp [thsM] at ht
  | succ k ih =>
    intro i l t ht
    simp only [thsM, List.mem_cons] at ht
    rcases ht with rfl | ht
    · exact rowM3 N i l
    · exact ih _ _ t ht
theorem MakeOut.rows3 {w w' : World} {N : List Int} {p : Pg} (h : MakeOut w w' N p) : ∀ t ∈ p.threads, (rowT t.body).length ≤ 325565 := fun t ht => by
  have hm : t.bare ∈ (makeM N).threads := by
    rw [← h.bare]
    simp only [Pg.bare]
    exact List.mem_map_of_mem ht
  have := thsM_rows N _ _ _ _ hm
  simp only [Th.bare] at this
  rw [rowT_bare] at this
  exact this
end Go.Proofs.Ytfdfeiempeciiaa

/- The walk of TreeRows. -/
namespace Go.Proofs.Ytfdfeiempeciiaa
open Go.ChangeShapes Go.WideShapes Go.ChangeAt Go.RowKit
set_option linter.unusedVariables false

set_option maxRecDepth 100000 in
set_option maxHeartbeats 1000000 in
theorem rows_law (v0 v1 : Value) (N M : List Int) (w : World) (hI : IsInts w w.heap.size v0 N) (hJ : IsInts w w.heap.size v1 M) :
    Calls Try.prog 6 #[v0, v1] w fun e w' => e = .returned (.bool true) ∧ Below w.heap.size w w' := by
  obtain ⟨av, capv, hv, hi⟩ := hI
  have hI : Hid (IsInts w w.heap.size v0 N) := hid ⟨av, capv, hv, hi⟩
  subst hv
  obtain ⟨au, capu, hu, hi2⟩ := hJ
  have hJ : Hid (IsInts w w.heap.size v1 M) := hid ⟨au, capu, hu, hi2⟩
  subst hu
  clear hi hi2
  go_enter Try.func6, Try.ntmps6
  go_wp2_with fail
  refine (alive_any _).mono ?_
  rintro e wa ⟨rfl, hba⟩
  replace hba := hid hba
  by_cases hf : N.length ≤ 400 ∧ M.length ≤ 400
  · obtain ⟨hf1, hf2⟩ := hf
    have g1 : decide ((N.length : Int) > 400) = false := by simp; omega
    have g2 : decide ((M.length : Int) > 400) = false := by simp; omega
    have hIa := hid ((hI.out.keep (fun b hb => hba.out.block b hb)).up hba.out.size)
    have hJa := hid ((hJ.out.keep (fun b hb => hba.out.block b hb)).up hba.out.size)
    go_wp2_with fail
    refine (make_any _ _ N hIa.out hf1).mono ?_
    rintro e wb ⟨p, rfl, mp⟩
    replace mp := hid mp
    have hJb := hid ((hJa.out.keep (fun b hb => mp.out.bel.block b hb)).up mp.out.bel.size)
    go_wp2_with fail
    refine (make_any _ _ M hJb.out hf2).mono ?_
    rintro e wm ⟨q, rfl, mq⟩
    replace mq := hid mq
    unfold Pg.val
    have V7 : Hid (VarAt ((wm.alloc (.cells #[.slice none 0 0, .slice none 0 0, .slice none 0 0, .slice none 0 0] 29)).alloc (.cells #[.slice none 0 0, .slice none 0 0, .slice none 0 0, .slice none 0 0] 29)) wm.heap.size [.slice none 0 0, .slice none 0 0, .slice none 0 0, .slice none 0 0] 29) := hid ((VarAt.new wm [.slice none 0 0, .slice none 0 0, .slice none 0 0, .slice none 0 0] 29).kept ((Below.refl _ _).alloc (Nat.le_refl _) _))
    have V8 : Hid (VarAt ((wm.alloc (.cells #[.slice none 0 0, .slice none 0 0, .slice none 0 0, .slice none 0 0] 29)).alloc (.cells #[.slice none 0 0, .slice none 0 0, .slice none 0 0, .slice none 0 0] 29)) (wm.heap.size + 1) [.slice none 0 0, .slice none 0 0, .slice none 0 0, .slice none 0 0] 29) := hid (by
      have := VarAt.new (wm.alloc (.cells #[.slice none 0 0, .slice none 0 0, .slice none 0 0, .slice none 0 0] 29)) [.slice none 0 0, .slice none 0 0, .slice none 0 0, .slice none 0 0] 29
      rw [World.size_alloc] at this
      exact this)
    have B0 : Hid (Below wm.heap.size wm ((wm.alloc (.cells #[.slice none 0 0, .slice none 0 0, .slice none 0 0, .slice none 0 0] 29)).alloc (.cells #[.slice none 0 0, .slice none 0 0, .slice none 0 0, .slice none 0 0] 29))) := hid (below_two _ _ _)
    have o7 := hid (Pg.ones p mp.out.ok)
    have o8 := hid (Pg.ones q mq.out.ok)
    generalize hWW : ((wm.alloc (.cells #[.slice none 0 0, .slice none 0 0, .slice none 0 0, .slice none 0 0] 29)).alloc (.cells #[.slice none 0 0, .slice none 0 0, .slice none 0 0, .slice none 0 0] 29)) = WW at *
    replace hWW := hid hWW
    go_upto_region 6 with (first
        | (refine wl_store_part 29 _ _ rfl rfl wm.heap.size 0 rfl p.cells rfl agg29 o7.out _ _ (by rw [hWW.out]; exact V7.out) (by simp [Pg.cells]) ?_
           intro w7 V7' t7
           replace t7 := hid (hWW.out ▸ t7)
           replace V8 := hid (V8.out.touch t7.out (by omega))
           replace V7' := hid V7')
        | (refine wl_store_part 29 _ _ rfl rfl (wm.heap.size + 1) 0 rfl q.cells rfl agg29 o8.out _ _ V8.out (by simp [Pg.cells]) ?_
           intro w8 V8' t8
           replace V7' := hid (V7'.out.touch t8 (by omega))
           replace V8' := hid V8'
           replace t8 := hid t8))
    rw [splice_full _ _ (by simp [Pg.cells])] at V8' V7'
    have tt : Hid (Touch (fun g => wm.heap.size ≤ g) WW w8) := hid ((t7.out.mono (fun g _ h => by omega)).trans (t8.out.mono (fun g _ h => by omega)))
    have Bq : Hid (Below wm.heap.size wm w8) := hid (B0.out.trans (tt.out.below (fun i hi => ⟨by have := B0.out.size; omega, by omega⟩)))
    have pk : Hid (p.ok w8 (fun _ => True)) := hid ((mp.out.ok.mono (fun _ _ _ => trivial)).kept (Below.over mq.out.bel Bq.out))
    have qk : Hid (q.ok w8 (fun _ => True)) := hid ((mq.out.ok.mono (fun _ _ _ => trivial)).kept Bq.out)
    have B8 : Hid (Below w.heap.size w w8) := hid (Below.over hba.out (Below.over mp.out.bel (Below.over mq.out.bel Bq.out)))
    have rp := hid mp.out.rows3
    have rq := hid mq.out.rows3
    have cp := hid mp.out.cnt_th
    have cq := hid mq.out.cnt_th
    clear t7 t8 V7 V8 hWW o7 o8 tt Bq B0 mp mq hIa hJa hJb hI hJ hba
    obtain ⟨pt, ct, ept⟩ := pk.out.2.2.2.1.form
    obtain ⟨qt, dt, eqt⟩ := qk.out.2.2.2.1.form
    have k7 : w8.cell? ⟨wm.heap.size, 3, none⟩ = some (.slice pt p.threads.length ct) := by rw [← ept]; exact V7'.out.cell 3 rfl
    have k8 : w8.cell? ⟨wm.heap.size + 1, 3, none⟩ = some (.slice qt q.threads.length dt) := by rw [← eqt]; exact V8'.out.cell 3 rfl
    have n47 := pk.out.2.2.2.1.1.2
    have n48 := qk.out.2.2.2.1.1.2
    have ths := pk.out.2.2.2
    rw [ept] at ths
    replace ths := hid ths
    have qhs := qk.out.2.2.2
    rw [eqt] at qhs
    replace qhs := hid qhs
    replace ept := hid ept
    replace eqt := hid eqt
    simp only [Act.put]
    by_cases hne : p.threads.length = 0 ∨ q.threads.length = 0
    · by_cases hp0 : p.threads.length = 0
      · have b7 : ((p.threads.length : Int) == 0) = true := by rw [beq_iff_eq]; omega
        have z7 : (p.threads.length : Int) = 0 := by omega
        clear ths qhs ept eqt V7' V8' pk qk rp rq cp cq hne
        go_wp2_with fail
        go_ret
        exact ⟨rfl, B8.out⟩
      · have hq0 : q.threads.length = 0 := by omega
        have b7 : ((p.threads.length : Int) == 0) = false := by rw [beq_eq_false_iff_ne]; omega
        have b8 : ((q.threads.length : Int) == 0) = true := by rw [beq_iff_eq]; omega
        have z8 : (q.threads.length : Int) = 0 := by omega
        clear ths qhs ept eqt V7' V8' pk qk rp rq cp cq hne
        go_wp2_with fail
        go_ret
        exact ⟨rfl, B8.out⟩
    · simp only [not_or] at hne
      obtain ⟨hp0, hq0⟩ := hne
      obtain ⟨t, ht⟩ : ∃ t, p.threads[0]? = some t := ⟨_, List.getElem?_eq_getElem (by omega)⟩
      obtain ⟨u, hu⟩ : ∃ u, q.threads[0]? = some u := ⟨_, List.getElem?_eq_getElem (by omega)⟩
      have htm := List.mem_of_getElem? ht
      have hum := List.mem_of_getElem? hu
      obtain ⟨ga, capa, ega, _, _, hrg⟩ := RowAt.elem Th.len ths.out.1 ht
      obtain ⟨gb, capb, egb, _, _, hrg2⟩ := RowAt.elem Th.len qhs.out.1 hu
      obtain ⟨rfl, -, rfl⟩ := Value.slice.inj ega
      obtain ⟨rfl, -, rfl⟩ := Value.slice.inj egb
      have rx : Hid (stsOk w8 (fun _ => True) t.bv t.body) := hid (ths.out.2 t htm)
      have ry : Hid (stsOk w8 (fun _ => True) u.bv u.body) := hid (qhs.out.2 u hum)
      have c0 : w8.cell? ⟨ga, 0, none⟩ = some t.bv := by have := hrg 0 t.bv rfl; simpa using this
      have c1 : w8.cell? ⟨gb, 0, none⟩ = some u.bv := by have := hrg2 0 u.bv rfl; simpa using this
      have lx := hid (rp.out t htm)
      have ly := hid (rq.out u hum)
      have cx := hid (cp.out t htm)
      have cy := hid (cq.out u hum)
      have z7 : decide ((p.threads.length : Int) = 0) = false := by rw [decide_eq_false_iff_not]; omega
      have z8 : decide ((q.threads.length : Int) = 0) = false := by rw [decide_eq_false_iff_not]; omega
      have b7 : ((p.threads.length : Int) == 0) = false := by rw [beq_eq_false_iff_ne]; omega
      have b8 : ((q.threads.length : Int) == 0) = false := by rw [beq_eq_false_iff_ne]; omega
      have i7 : (0 : Int) < (p.threads.length : Int) := by omega
      have i8 : (0 : Int) < (q.threads.length : Int) := by omega
      generalize p.threads.length = np at *
      generalize q.threads.length = mq at *
      clear hrg hrg2 ega egb ths qhs ept eqt V7' V8' pk qk rp rq cp cq
      go_wp2_with fail
      go_quiet (fail)
      have bw : Below w8.heap.size w8 (w8.drewN nq) := ⟨rfl, rfl, rfl, Nat.le_refl _, fun _ _ => rfl⟩
      replace rx := hid (rx.out.kept bw)
      replace ry := hid (ry.out.kept bw)
      replace B8 := hid (Below.over B8.out bw)
      generalize w8.drewN nq = W at *
      clear c0 c1 k7 k8 n47 n48 z7 z8 b7 b8 i7 i8 hp0 hq0 ht hu htm hum g1 g2 hf1 hf2 bw
      generalize t.bv = vx at *
      generalize u.bv = vy at *
      generalize t.body = X at *
      generalize u.body = Y at *
      have nX : Hid (X.length ≤ 1000000) := hid (by have := rowT_len X; have := lx.out; omega)
      have nY : Hid (Y.length ≤ 1000000) := hid (by have := rowT_len Y; have := ly.out; omega)
      go_upto_region 10 with (first
        | (at_builtin; refine wl_rows1 rfl _ _ rfl W rfl vx rfl _ X rx.out nX.out ?_; intro va wA hA; replace hA := hid hA)
        | (at_builtin; refine wl_rows2 rfl _ _ rfl W wA va rfl X hA.out vy rfl _ Y ry.out nX.out nY.out ?_; intro v9 w9 h9; replace h9 := hid h9))
      have r9 := hid (h9.out.sts (by simp; have := nX.out; have := nY.out; omega) (F := fun _ => True) (fun s hs => (List.mem_append.1 hs).elim (rx.out.2 s) (ry.out.2 s)))
      replace rx := hid (rx.out.kept h9.out.bel)
      replace ry := hid (ry.out.kept h9.out.bel)
      replace B8 := hid (Below.over B8.out h9.out.bel)
      clear hA h9
      go_upto_region 11 with (first
        | (at_builtin; refine wl_rows1 rfl _ _ rfl w9 rfl vy rfl _ Y ry.out nY.out ?_; intro vb wB hB; replace hB := hid hB)
        | (at_builtin; refine wl_rows2 rfl _ _ rfl w9 wB vb rfl Y hB.out vx rfl _ X rx.out nY.out nX.out ?_; intro v10 w10 h10; replace h10 := hid h10))
      have r10 := hid (h10.out.sts (by simp; have := nX.out; have := nY.out; omega) (F := fun _ => True) (fun s hs => (List.mem_append.1 hs).elim (ry.out.2 s) (rx.out.2 s)))
      replace rx := hid (rx.out.kept h10.out.bel)
      replace ry := hid (ry.out.kept h10.out.bel)
      replace r9 := hid (r9.out.kept h10.out.bel)
      replace B8 := hid (Below.over B8.out h10.out.bel)
      clear hB h10
      have G9 := hid (goneN (X ++ Y) v9 w10 _ r9.out (by have := rowT_app X Y; have := lx.out; have := ly.out; omega) (by rw [cnt_app]; have := cx.out; have := cy.out; omega))
      rw [cnt_app] at G9
      go_wp2_with fail
      refine G9.out.mono ?_
      rintro e w11 ⟨rfl, hb⟩
      replace rx := hid (rx.out.kept hb)
      replace ry := hid (ry.out.kept hb)
      replace r9 := hid (r9.out.kept hb)
      replace r10 := hid (r10.out.kept hb)
      replace B8 := hid (Below.over B8.out hb)
      clear hb G9
      have GX := hid (goneN X vx w11 _ rx.out (by have := lx.out; omega) (by have := cx.out; omega))
      go_wp2_with fail
      refine GX.out.mono ?_
      rintro e w12 ⟨rfl, hb⟩
      replace rx := hid (rx.out.kept hb)
      replace ry := hid (ry.out.kept hb)
      replace r9 := hid (r9.out.kept hb)
      replace r10 := hid (r10.out.kept hb)
      replace B8 := hid (Below.over B8.out hb)
      clear hb GX
      have GY := hid (goneN Y vy w12 _ ry.out (by have := ly.out; omega) (by have := cy.out; omega))
      go_wp2_with fail
      refine GY.out.mono ?_
      rintro e w13 ⟨rfl, hb⟩
      replace rx := hid (rx.out.kept hb)
      replace ry := hid (ry.out.kept hb)
      replace r9 := hid (r9.out.kept hb)
      replace r10 := hid (r10.out.kept hb)
      replace B8 := hid (Below.over B8.out hb)
      clear hb GY
      have ex : Hid (∃ nx ny : Nat, cnt X = nx ∧ cnt Y = ny ∧ nx ≤ 60 ∧ ny ≤ 60) := hid ⟨_, _, rfl, rfl, cx.out, cy.out⟩
      obtain ⟨nx, ny, e1, e2, l1, l2⟩ := ex.out
      rw [e1, e2]
      have ew : wrap64 ((nx : Int) + (ny : Int)) = ((nx + ny : Nat) : Int) := by unfold wrap64; omega
      clear ex e1 e2 cx cy
      go_wp2_with (first
        | (at_builtin; refine wl_rows1 rfl _ _ rfl w13 rfl vx rfl _ X rx.out nX.out ?_; intro vc wC hC; replace hC := hid hC)
        | (at_builtin; refine wl_rows2 rfl _ _ rfl w13 wC vc rfl X hC.out vy rfl _ Y ry.out nX.out nY.out ?_; intro v16 w16 h16; replace h16 := hid h16))
      have r16 := hid (h16.out.sts (by simp; have := nX.out; have := nY.out; omega) (F := fun _ => True) (fun s hs => (List.mem_append.1 hs).elim (rx.out.2 s) (ry.out.2 s)))
      replace rx := hid (rx.out.kept h16.out.bel)
      replace ry := hid (ry.out.kept h16.out.bel)
      replace r9 := hid (r9.out.kept h16.out.bel)
      replace r10 := hid (r10.out.kept h16.out.bel)
      replace B8 := hid (Below.over B8.out h16.out.bel)
      clear hC h16
      have C1 := hid (stmts_any (X ++ Y) (X ++ Y) v9 v16 w16 _ _ r9.out r16.out)
      rw [rows_bare (X ++ Y) (X ++ Y) rfl] at C1
      refine C1.out.mono ?_
      rintro e w17 ⟨rfl, hb⟩
      replace rx := hid (rx.out.kept hb)
      replace ry := hid (ry.out.kept hb)
      replace r9 := hid (r9.out.kept hb)
      replace r10 := hid (r10.out.kept hb)
      replace B8 := hid (Below.over B8.out hb)
      clear hb C1 r16
      have C2 := hid (stmts_any X Y vx vy w17 _ _ rx.out ry.out)
      have tu := hid (rows_turned X Y rx.out ry.out)
      generalize eqL St.same X Y = c at *
      go_wp2_with fail
      refine C2.out.mono ?_
      rintro e w18 ⟨rfl, hb⟩
      replace r9 := hid (r9.out.kept hb)
      replace r10 := hid (r10.out.kept hb)
      replace B8 := hid (Below.over B8.out hb)
      clear hb C2 rx ry
      cases c with
      | true =>
        have C3 := hid (stmts_any (X ++ Y) (Y ++ X) v9 v10 w18 _ _ r9.out r10.out)
        rw [tu.out rfl] at C3
        go_wp2_with fail
        refine C3.out.mono ?_
        rintro e w19 ⟨rfl, hb⟩
        replace B8 := hid (Below.over B8.out hb)
        clear hb C3 r9 r10
        go_wp2_with fail
        refine (exprs12 w19).mono ?_
        rintro e w20 ⟨rfl, hb⟩
        replace B8 := hid (Below.over B8.out hb)
        clear hb
        go_wp2_with fail
        go_ret
        exact ⟨rfl, B8.out⟩
      | false =>
        clear r9 r10 tu
        go_wp2_with fail
        refine (exprs12 w18).mono ?_
        rintro e w20 ⟨rfl, hb⟩
        replace B8 := hid (Below.over B8.out hb)
        clear hb
        go_wp2_with fail
        go_ret
        exact ⟨rfl, B8.out⟩
  · have g3 : N.length ≤ 400 → ¬ M.length ≤ 400 := fun h k => hf ⟨h, k⟩
    by_cases hf1 : N.length ≤ 400
    · have g1 : decide ((N.length : Int) > 400) = false := by simp; omega
      have g2 : decide ((M.length : Int) > 400) = true := by have := g3 hf1; simp; omega
      go_wp2_with fail
      go_ret
      exact ⟨rfl, hba.out⟩
    · have g1 : decide ((N.length : Int) > 400) = true := by simp; omega
      go_wp2_with fail
      go_ret
      exact ⟨rfl, hba.out⟩
end Go.Proofs.Ytfdfeiempeciiaa
