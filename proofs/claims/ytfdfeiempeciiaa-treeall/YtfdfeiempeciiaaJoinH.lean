/- Region 10 of gone: what it answers, in whatever order it is reckoned. Printed by wip/tools/mkgone10.py. -/
import Derived.Test.YtfdfeiempeciiaaGone7
import Derived.Test.YtfdfeiempeciiaaJoinE
import Derived.Test.YtfdfeiempeciiaaFlatW
import Derived.Test.YtfdfeiempeciiaaFlatB
import Derived.Test.YtfdfeiempeciiaaRefStmts
import Derived.Test.YtfdfeiempeciiaaInRound
import Derived.Test.YtfdfeiempeciiaaLens
import Derived.Test.YtfdfeiempeciiaaAlive
import Derived.Test.YtfdfeiempeciiaaJoinA
import Derived.Test.YtfdfeiempeciiaaMake1
import Derived.Deep.CutBlock
import Derived.Deep.CutRange
import Derived.Deep.DeepCutAuto
import Derived.Test.YtfdfeiempeciiaaJoinC
import Derived.Test.YtfdfeiempeciiaaWalk
namespace Go.Proofs.Ytfdfeiempeciiaa
open Go.ChangeShapes Go.WideShapes Go.ChangeAt Go.RowKit Go.Shelf
set_option linter.unusedVariables false
attribute [local go_sem] Oper.semAt_some

theorem step_storeV {ops : Array Oper} {o : Oper} {a : Act} {w : World} {K : Act → World → Prop} {Q : Exit → Act → World → Prop} {E : Prop} (hw : Region.wanted o (yielded ops a.tmps) = true) (ty : TypeId) (x y : Operand) (ho : o.op = .store ty x y) (b : Nat) (hx : a.eval x = .pointer (some ⟨b, 0, none⟩)) (u : Value) (hy : a.eval y = u)
    (hT : (Try.prog.info? ty).map (·.size) = some 1) (h1 : u.oneCell' = true) (c : Value) (t : TypeId) (hv : VarAt w b [c] t) (h : ∀ w', VarAt w' b [u] t → Touch (fun g => g = b) w w' → K (a.put o.dst undef) w') :
    if Region.wanted o (yielded ops a.tmps) = true then Oper.wp Try.prog o a w K Q else E := by
  rw [if_pos hw]
  have hc : u.cells = #[u] := by cases u <;> first | rfl | simp [Value.oneCell'] at h1
  have hr : (storeVar ty ⟨b, 0, none⟩ u).run Try.prog w = .ok () (w.setCell ⟨b, 0, none⟩ u) := by
    have hs := run_storeCells_cells (P := Try.prog) b 0 [u] 0 w (fun j hj => by simpa using (hv.there 0 1 (by simp) j (by simpa using hj)).1) (fun j hj => by simpa using (hv.there 0 1 (by simp) j (by simpa using hj)).2) (fun v hv => by simp at hv; subst hv; exact h1)
    cases hq : Try.prog.info? ty with
    | none => simp [hq] at hT
    | some i =>
      have e : i.size = 1 := by simpa [hq] using hT
      simp only [Nat.add_zero] at hs
      simp [storeVar, sizeOf, typeInfo, hq, hc, e]
      simpa [World.setCells] using hs
  unfold Oper.wp execOp
  simp [ho, hx, hy, Instr.storeAt, Instr.sureAddr, hr, Result.andThen]
  simpa [Oper.upon] using h _ (hv.set 0 u) (Touch.setCell _ _ _ rfl)

set_option maxRecDepth 100000 in
set_option maxHeartbeats 2000000 in
theorem gone10 {Q : Exit → Act → World → Prop} (W : World) (b3 b4 b5 b6 b8 k n1 c1 : Nat) (p1 : Option Addr) (most : Int) (ds : List Deferred) (u0 u1 u2 u7 u9 u10 u11 u12 u13 u14 u15 u16 u17 u18 u19 u20 u21 u22 u23 u24 u25 u26 u27 u28 u29 u30 u31 u32 u33 u34 u35 u36 u37 u38 u39 u40 u41 u42 u43 u44 u45 u46 u47 u48 u49 u50 u51 u52 u53 u54 u55 u56 u57 u58 : Value)
    (h3 : VarAt W b3 [.int .i64 most] 3) (h4 : VarAt W b4 [.int .i64 0] 3) (h5 : VarAt W b5 [.bool false] 4) (h6 : VarAt W b6 [.slice p1 n1 c1] 35) (h8 : VarAt W b8 [.int .i64 k] 3)
    (n43 : b4 ≠ b3) (n46 : b4 ≠ b6) (n48 : b4 ≠ b8) (n53 : b5 ≠ b3) (n56 : b5 ≠ b6) (n58 : b5 ≠ b8) (n45 : b4 ≠ b5) (hk : (k : Int) = min (max most 0) n1) (hQp : ∀ c a a' w, Q (.panic c) a w → Q (.panic c) a' w)
    (h : ∀ (x51 x52 x53 x54 x55 x56 x57 x58 : Value) (X : World), VarAt X b4 [.int .i64 k] 3 → VarAt X b5 [.bool true] 4 → Touch (fun b => b = b4 ∨ b = b5) W X → Q .normal { tmps := (u0 :: u1 :: u2 :: .pointer (some ⟨b3, 0, none⟩) :: .pointer (some ⟨b4, 0, none⟩) :: .pointer (some ⟨b5, 0, none⟩) :: .pointer (some ⟨b6, 0, none⟩) :: u7 :: .pointer (some ⟨b8, 0, none⟩) :: u9 :: u10 :: u11 :: u12 :: u13 :: u14 :: u15 :: u16 :: u17 :: u18 :: u19 :: u20 :: u21 :: u22 :: u23 :: u24 :: u25 :: u26 :: u27 :: u28 :: u29 :: u30 :: u31 :: u32 :: u33 :: u34 :: u35 :: u36 :: u37 :: u38 :: u39 :: u40 :: u41 :: u42 :: u43 :: u44 :: u45 :: u46 :: u47 :: u48 :: u49 :: u50 :: x51 :: x52 :: x53 :: x54 :: x55 :: x56 :: x57 :: x58 :: []).toArray, defers := ds } X) :
    (Code.region 10 #[{ dst := some 51, op := Op.load 3 (Operand.tmp 8), type := 3, pos := "law.go:59", after := #[], guard := none }, { dst := some 52, op := Op.load 3 (Operand.tmp 8), type := 3, pos := "law.go:59", after := #[], guard := none }, { dst := some 53, op := Op.load 3 (Operand.tmp 3), type := 3, pos := "law.go:59", after := #[], guard := none }, { dst := some 54, op := Op.call { callee := Callee.builtin Builtin.max, args := #[Operand.tmp 53, Operand.const (Value.int IntKind.i64 0)], argTypes := #[3, 3] }, type := 3, pos := "law.go:59", after := #[{ on := 2, ground := Ground.data }], guard := none }, { dst := some 55, op := Op.load 35 (Operand.tmp 6), type := 35, pos := "law.go:59", after := #[], guard := none }, { dst := some 56, op := Op.call { callee := Callee.builtin Builtin.len, args := #[Operand.tmp 55], argTypes := #[35] }, type := 3, pos := "law.go:59", after := #[{ on := 4, ground := Ground.data }], guard := none }, { dst := some 57, op := Op.call { callee := Callee.builtin Builtin.min, args := #[Operand.tmp 54, Operand.tmp 56], argTypes := #[3, 3] }, type := 3, pos := "law.go:59", after := #[{ on := 3, ground := Ground.data }, { on := 5, ground := Ground.data }], guard := none }, { dst := some 58, op := Op.binOp BinOp.eql 3 (Operand.tmp 52) (Operand.tmp 57) 3, type := 4, pos := "law.go:59", after := #[{ on := 1, ground := Ground.data }, { on := 6, ground := Ground.data }], guard := none }, { dst := none, op := Op.store 3 (Operand.tmp 4) (Operand.tmp 51), type := 0, pos := "law.go:59", after := #[{ on := 0, ground := Ground.data }, { on := 0, ground := Ground.phase }, { on := 1, ground := Ground.textOnly Departure.inlinedCapture }, { on := 2, ground := Ground.textOnly Departure.lateStores }, { on := 3, ground := Ground.textOnly Departure.lateStoresUnsure }, { on := 4, ground := Ground.textOnly Departure.lateStores }, { on := 5, ground := Ground.textOnly Departure.lateStoresUnsure }, { on := 6, ground := Ground.textOnly Departure.lateStoresUnsure }, { on := 7, ground := Ground.textOnly Departure.inlinedCapture }], guard := none }, { dst := none, op := Op.store 4 (Operand.tmp 5) (Operand.tmp 58), type := 0, pos := "law.go:59", after := #[{ on := 7, ground := Ground.data }, { on := 8, ground := Ground.chain }, { on := 0, ground := Ground.phase }, { on := 1, ground := Ground.phase }, { on := 2, ground := Ground.phase }, { on := 3, ground := Ground.phase }, { on := 4, ground := Ground.phase }, { on := 5, ground := Ground.phase }, { on := 6, ground := Ground.phase }, { on := 7, ground := Ground.phase }, { on := 8, ground := Ground.phase }], guard := none }] true).wp Try.prog Q { tmps := (u0 :: u1 :: u2 :: .pointer (some ⟨b3, 0, none⟩) :: .pointer (some ⟨b4, 0, none⟩) :: .pointer (some ⟨b5, 0, none⟩) :: .pointer (some ⟨b6, 0, none⟩) :: u7 :: .pointer (some ⟨b8, 0, none⟩) :: u9 :: u10 :: u11 :: u12 :: u13 :: u14 :: u15 :: u16 :: u17 :: u18 :: u19 :: u20 :: u21 :: u22 :: u23 :: u24 :: u25 :: u26 :: u27 :: u28 :: u29 :: u30 :: u31 :: u32 :: u33 :: u34 :: u35 :: u36 :: u37 :: u38 :: u39 :: u40 :: u41 :: u42 :: u43 :: u44 :: u45 :: u46 :: u47 :: u48 :: u49 :: u50 :: u51 :: u52 :: u53 :: u54 :: u55 :: u56 :: u57 :: u58 :: []).toArray, defers := ds } W := by
  have hH : (fun X : World => X.cell? ⟨b8, 0, none⟩ = some (.int .i64 k) ∧ X.cell? ⟨b3, 0, none⟩ = some (.int .i64 most) ∧ X.cell? ⟨b6, 0, none⟩ = some (.slice p1 n1 c1)) W.drew := ⟨h8.cell 0 rfl, h3.cell 0 rfl, h6.cell 0 rfl⟩
  replace h := hid h
  replace hk := hid hk
  refine wp_region_held_drew (S := (fun X : World => X.cell? ⟨b8, 0, none⟩ = some (.int .i64 k) ∧ X.cell? ⟨b3, 0, none⟩ = some (.int .i64 most) ∧ X.cell? ⟨b6, 0, none⟩ = some (.slice p1 n1 c1))) (by kernel_rfl) hH (fun hHeld => ?_)
  refine wpAnyH_take (i := 0) (oi := { dst := some 51, op := Op.load 3 (Operand.tmp 8), type := 3, pos := "law.go:59", after := #[], guard := none }) (v := ?_) rfl (by kernel_rfl) (by kernel_rfl) (by kernel_rfl) (fun c a w h => hQp c _ _ w h) (Or.inl ⟨by rfl, ?_⟩) hHeld ?_
  rotate_left
  · intro w0 hSw; obtain ⟨q8, q3, q6⟩ := hSw; go_simp; (try with_reducible rfl)
  simp only [Act.put, List.setIfInBounds_toArray, List.set_cons_zero, List.set_cons_succ]
  refine wpAnyH_take (i := 1) (oi := { dst := some 52, op := Op.load 3 (Operand.tmp 8), type := 3, pos := "law.go:59", after := #[], guard := none }) (v := ?_) rfl (by kernel_rfl) (by kernel_rfl) (by kernel_rfl) (fun c a w h => hQp c _ _ w h) (Or.inl ⟨by rfl, ?_⟩) hHeld ?_
  rotate_left
  · intro w0 hSw; obtain ⟨q8, q3, q6⟩ := hSw; go_simp; (try with_reducible rfl)
  simp only [Act.put, List.setIfInBounds_toArray, List.set_cons_zero, List.set_cons_succ]
  refine wpAnyH_take (i := 2) (oi := { dst := some 53, op := Op.load 3 (Operand.tmp 3), type := 3, pos := "law.go:59", after := #[], guard := none }) (v := ?_) rfl (by kernel_rfl) (by kernel_rfl) (by kernel_rfl) (fun c a w h => hQp c _ _ w h) (Or.inl ⟨by rfl, ?_⟩) hHeld ?_
  rotate_left
  · intro w0 hSw; obtain ⟨q8, q3, q6⟩ := hSw; go_simp; (try with_reducible rfl)
  simp only [Act.put, List.setIfInBounds_toArray, List.set_cons_zero, List.set_cons_succ]
  refine wpAnyH_take (i := 3) (oi := { dst := some 54, op := Op.call { callee := Callee.builtin Builtin.max, args := #[Operand.tmp 53, Operand.const (Value.int IntKind.i64 0)], argTypes := #[3, 3] }, type := 3, pos := "law.go:59", after := #[{ on := 2, ground := Ground.data }], guard := none }) (v := .int .i64 (max most 0)) rfl (by kernel_rfl) (by kernel_rfl) (by kernel_rfl) (fun c a w h => hQp c _ _ w h) (Or.inl ⟨by rfl, ?_⟩) hHeld ?_
  · intro w0 hSw; obtain ⟨q8, q3, q6⟩ := hSw; go_simp; split <;> omega
  simp only [Act.put, List.setIfInBounds_toArray, List.set_cons_zero, List.set_cons_succ]
  refine wpAnyH_take (i := 4) (oi := { dst := some 55, op := Op.load 35 (Operand.tmp 6), type := 35, pos := "law.go:59", after := #[], guard := none }) (v := ?_) rfl (by kernel_rfl) (by kernel_rfl) (by kernel_rfl) (fun c a w h => hQp c _ _ w h) (Or.inl ⟨by rfl, ?_⟩) hHeld ?_
  rotate_left
  · intro w0 hSw; obtain ⟨q8, q3, q6⟩ := hSw; go_simp; (try with_reducible rfl)
  simp only [Act.put, List.setIfInBounds_toArray, List.set_cons_zero, List.set_cons_succ]
  refine wpAnyH_take (i := 5) (oi := { dst := some 56, op := Op.call { callee := Callee.builtin Builtin.len, args := #[Operand.tmp 55], argTypes := #[35] }, type := 3, pos := "law.go:59", after := #[{ on := 4, ground := Ground.data }], guard := none }) (v := ?_) rfl (by kernel_rfl) (by kernel_rfl) (by kernel_rfl) (fun c a w h => hQp c _ _ w h) (Or.inl ⟨by rfl, ?_⟩) hHeld ?_
  rotate_left
  · intro w0 hSw; obtain ⟨q8, q3, q6⟩ := hSw; go_simp; (try with_reducible rfl)
  simp only [Act.put, List.setIfInBounds_toArray, List.set_cons_zero, List.set_cons_succ]
  refine wpAnyH_take (i := 6) (oi := { dst := some 57, op := Op.call { callee := Callee.builtin Builtin.min, args := #[Operand.tmp 54, Operand.tmp 56], argTypes := #[3, 3] }, type := 3, pos := "law.go:59", after := #[{ on := 3, ground := Ground.data }, { on := 5, ground := Ground.data }], guard := none }) (v := .int .i64 k) rfl (by kernel_rfl) (by kernel_rfl) (by kernel_rfl) (fun c a w h => hQp c _ _ w h) (Or.inl ⟨by rfl, ?_⟩) hHeld ?_
  · intro w0 hSw; obtain ⟨q8, q3, q6⟩ := hSw; go_simp; rw [hk.out]; split <;> omega
  simp only [Act.put, List.setIfInBounds_toArray, List.set_cons_zero, List.set_cons_succ]
  refine wpAnyH_take (i := 7) (oi := { dst := some 58, op := Op.binOp BinOp.eql 3 (Operand.tmp 52) (Operand.tmp 57) 3, type := 4, pos := "law.go:59", after := #[{ on := 1, ground := Ground.data }, { on := 6, ground := Ground.data }], guard := none }) (v := .bool true) rfl (by kernel_rfl) (by kernel_rfl) (by kernel_rfl) (fun c a w h => hQp c _ _ w h) (Or.inl ⟨by rfl, ?_⟩) hHeld ?_
  · intro w0 hSw; obtain ⟨q8, q3, q6⟩ := hSw; go_simp; skip
  simp only [Act.put, List.setIfInBounds_toArray, List.set_cons_zero, List.set_cons_succ]
  have h3' : VarAt W.drew b3 [.int .i64 most] 3 := h3
  have h4' : VarAt W.drew b4 [.int .i64 0] 3 := h4
  have h5a : VarAt W.drew b5 [.bool false] 4 := h5
  have h6' : VarAt W.drew b6 [.slice p1 n1 c1] 35 := h6
  have h8' : VarAt W.drew b8 [.int .i64 k] 3 := h8
  refine wpAnyH_ready (rs := [8]) (by kernel_rfl) (by simp) ?_
  refine AllReadyH.cons (o := { dst := none, op := Op.store 3 (Operand.tmp 4) (Operand.tmp 51), type := 0, pos := "law.go:59", after := #[{ on := 0, ground := Ground.data }, { on := 0, ground := Ground.phase }, { on := 1, ground := Ground.textOnly Departure.inlinedCapture }, { on := 2, ground := Ground.textOnly Departure.lateStores }, { on := 3, ground := Ground.textOnly Departure.lateStoresUnsure }, { on := 4, ground := Ground.textOnly Departure.lateStores }, { on := 5, ground := Ground.textOnly Departure.lateStoresUnsure }, { on := 6, ground := Ground.textOnly Departure.lateStoresUnsure }, { on := 7, ground := Ground.textOnly Departure.inlinedCapture }], guard := none }) rfl (fun K' hK' => ?_) AllReadyH.nil
  refine step_storeV (by rfl) 3 _ _ rfl b4 rfl (.int .i64 k) rfl (by kernel_rfl) rfl (.int .i64 0) 3 h4' ?_
  intro y8 g8 t8
  replace hHeld := (show _ ∧ _ ∧ _ from ⟨(h8'.touch t8 n48.symm).cell 0 rfl, (h3'.touch t8 n43.symm).cell 0 rfl, (h6'.touch t8 n46.symm).cell 0 rfl⟩)
  refine hK'.out _ _ hHeld (fun hHeld2 => ?_)
  clear hHeld2 hK' K'
  simp only [Act.put]
  have h5' := h5a.touch t8 n45.symm
  refine wpAnyH_ready (rs := [9]) (by kernel_rfl) (by simp) ?_
  refine AllReadyH.cons (o := { dst := none, op := Op.store 4 (Operand.tmp 5) (Operand.tmp 58), type := 0, pos := "law.go:59", after := #[{ on := 7, ground := Ground.data }, { on := 8, ground := Ground.chain }, { on := 0, ground := Ground.phase }, { on := 1, ground := Ground.phase }, { on := 2, ground := Ground.phase }, { on := 3, ground := Ground.phase }, { on := 4, ground := Ground.phase }, { on := 5, ground := Ground.phase }, { on := 6, ground := Ground.phase }, { on := 7, ground := Ground.phase }, { on := 8, ground := Ground.phase }], guard := none }) rfl (fun K' hK' => ?_) AllReadyH.nil
  refine step_storeV (by rfl) 4 _ _ rfl b5 rfl (.bool true) rfl (by kernel_rfl) rfl (.bool false) 4 h5' ?_
  intro y9 g9 t9
  replace hHeld := (show _ ∧ _ ∧ _ from ⟨((h8'.touch t8 n48.symm).touch t9 n58.symm).cell 0 rfl, ((h3'.touch t8 n43.symm).touch t9 n53.symm).cell 0 rfl, ((h6'.touch t8 n46.symm).touch t9 n56.symm).cell 0 rfl⟩)
  refine hK'.out _ _ hHeld (fun hHeld2 => ?_)
  clear hHeld2 hK' K'
  simp only [Act.put]
  refine wpAnyH_done (by kernel_rfl) ?_ _
  exact h.out _ _ _ _ _ _ _ _ _ (g8.touch t9 n45) g9 ((Touch.mk rfl rfl rfl (Nat.le_refl _) (fun _ _ _ => rfl) : Touch _ W W.drew).trans ((t8.mono (fun _ _ h => .inl h)).trans (t9.mono (fun _ _ h => .inr h))))
end Go.Proofs.Ytfdfeiempeciiaa

/- The contract of gone: begun. -/
namespace Go.Proofs.Ytfdfeiempeciiaa
open Go.ChangeShapes Go.WideShapes Go.ChangeAt Go.RowKit Go.Shelf
set_option linter.unusedVariables false
attribute [local go_sem] Oper.semAt_some

theorem nextN {X : World} {b k : Nat} (h : VarAt X b [.int .i64 k] 3) : VarAt (X.setCell ⟨b, 0, none⟩ (.int .i64 ((k : Int) + 1))) b [.int .i64 ((k + 1 : Nat) : Int)] 3 := by
  rw [show ((k + 1 : Nat) : Int) = (k : Int) + 1 by omega]
  exact h.set 0 (.int .i64 ((k : Int) + 1))
theorem turnN {X X' : World} (h : Below X.heap.size X X') (b : Nat) (v : Value) : Touch (fun i => i = b) X (X'.setCell ⟨b, 0, none⟩ v) := by
  refine (Touch.of_below h).trans ?_
  exact Touch.setCell X' ⟨b, 0, none⟩ v rfl
theorem nextK (k : Nat) (most : Int) (h : ¬ most ≤ (k : Int)) : ((k + 1 : Nat) : Int) ≤ max most 0 := by omega
theorem wpIn_calm {F : Fence} {n : Nat} {c : Code} {Q : Exit → Act → World → Prop} {a : Act} {w : World} (h : c.wpIn F n Try.prog (Exit.then (Q .normal) (fun _ _ _ => False)) a w) : c.wpIn F n Try.prog Q a w :=
  wpIn_mono h (fun e a w h => by cases e <;> first | exact h | exact h.elim)
theorem loadVar3 (w : World) (b : Nat) (n : Int) (h : VarAt w b [.int .i64 n] 3) : (loadVar 3 ⟨b, 0, none⟩).run Try.prog w = .ok (.int .i64 n) w := by
  have c := h.cell 0 (v := .int .i64 n) rfl
  go_simp
theorem loadVar4 (w : World) (b : Nat) (n : Bool) (h : VarAt w b [.bool n] 4) : (loadVar 4 ⟨b, 0, none⟩).run Try.prog w = .ok (.bool n) w := by
  have c := h.cell 0 (v := .bool n) rfl
  go_simp
theorem results_cells {fn : Func} {t u ty ty' : Nat} (h : fn.results = #[.cell t ty, .cell u ty']) (tmps : Array Value) (w : World) (b b' : Nat) (v v' : Value) (h1 : tmps.getD t undef = .pointer (some ⟨b, 0, none⟩)) (h2 : tmps.getD u undef = .pointer (some ⟨b', 0, none⟩))
    (l1 : (loadVar ty ⟨b, 0, none⟩).run Try.prog w = .ok v w) (l2 : (loadVar ty' ⟨b', 0, none⟩).run Try.prog w = .ok v' w) : (results fn tmps).run Try.prog w = .ok (.tuple #[v, v']) w := by
  rw [Array.getD_eq_getD_getElem?] at h1 h2
  simp [results, h, h1, h2, asAddr, l1, l2]
theorem flatL_texts2 (l : List St) (d : Int) : ∀ x ∈ flatL d l, (rowT [x.2]).length ≤ (rowT l).length := fun x hx => by
  simp only [flatL, List.mem_flatMap] at hx
  obtain ⟨k, hk, hx⟩ := hx
  have h1 := flat_texts k d x hx
  obtain ⟨i, hi⟩ := List.mem_iff_getElem?.1 hk
  have h2 := mem_take_len St.texts l i k hi
  simp only [rowT, List.length_append, List.flatMap_cons, List.flatMap_nil, List.append_nil, List.length_cons, List.length_nil]
  omega
set_option maxRecDepth 100000 in
set_option maxHeartbeats 2000000 in
theorem gone_any (l : List St) (v : Value) (most : Int) (w : World) (F : Nat → Prop) (hl : stsOk w F v l) (ht : (rowT l).length ≤ 2000000) (hn : (flatL 0 l).length ≤ 1000000) (hm : I64 most) :
    Calls Try.prog 17 #[v, .int .i64 most] w fun e w' => e = .returned (.tuple #[.int .i64 (min (max most 0) (flatL 0 l).length), .bool true]) ∧ Below w.heap.size w w' := by
  refine (callsIn_wide (n := 3)).1 ?_
  have b3 : Below w.heap.size w (((w.alloc (.cells #[.int .i64 most] 3)).alloc (.cells #[.int .i64 0] 3)).alloc (.cells #[.bool false] 4)) := Below.over (below_two _ _ _) ((Below.refl _ _).alloc (Nat.le_refl _) _)
  have C := hid (flat_any l v 0 _ F (hl.kept b3) hn)
  obtain ⟨pv, cv, rfl⟩ := hl.1.form
  refine callsIn_of_wp_marks Try.func17 rfl trivial ?_ rfl
  simp only [Try.ntmps17, List.size_toArray, List.length_cons, List.length_nil, Nat.reduceAdd, Nat.reduceSub, Array.replicate_succ, Array.replicate_zero, List.push_toArray, List.append_toArray, List.nil_append, List.cons_append]
  gi_wp2_with (refine ⟨trivial, ?_⟩; gi_at_call 18; refine (callsIn_wide.2 C.out).mono ?_; rintro e w1 ⟨p1, n1, c1, p2, n2, c2, rfl, h2⟩; replace h2 := hid h2)
  have b4 : Below w1.heap.size w1 (((w1.alloc (.cells #[.slice p1 n1 c1] 35)).alloc (.cells #[.slice p2 n2 c2] 22)).alloc (.cells #[.int .i64 0] 3)) := Below.over (below_two _ _ _) ((Below.refl _ _).alloc (Nat.le_refl _) _)
  have D0 := hid (all_any l (.slice pv l.length cv) _ F (((hl.kept b3).kept h2.out.bel).kept b4) ht)
  have z4 : (((w1.alloc (.cells #[.slice p1 n1 c1] 35)).alloc (.cells #[.slice p2 n2 c2] 22)).alloc (.cells #[.int .i64 0] 3)).heap.size = w1.heap.size + 3 := by simp only [World.size_alloc]
  have u6 : VarAt (((w1.alloc (.cells #[.slice p1 n1 c1] 35)).alloc (.cells #[.slice p2 n2 c2] 22)).alloc (.cells #[.int .i64 0] 3)) w1.heap.size [.slice p1 n1 c1] 35 := ((VarAt.new w1 [.slice p1 n1 c1] 35).kept ((Below.refl _ _).alloc (Nat.le_refl _) _)).kept ((Below.refl _ _).alloc (Nat.le_refl _) _)
  have u7 : VarAt (((w1.alloc (.cells #[.slice p1 n1 c1] 35)).alloc (.cells #[.slice p2 n2 c2] 22)).alloc (.cells #[.int .i64 0] 3)) (w1.heap.size + 1) [.slice p2 n2 c2] 22 := by
    have := (VarAt.new (w1.alloc (.cells #[.slice p1 n1 c1] 35)) [.slice p2 n2 c2] 22).kept ((Below.refl _ _).alloc (Nat.le_refl _) (.cells #[.int .i64 0] 3))
    rw [World.size_alloc] at this
    exact this
  have u8 : VarAt (((w1.alloc (.cells #[.slice p1 n1 c1] 35)).alloc (.cells #[.slice p2 n2 c2] 22)).alloc (.cells #[.int .i64 0] 3)) (w1.heap.size + 1 + 1) [.int .i64 0] 3 := by
    have := VarAt.new ((w1.alloc (.cells #[.slice p1 n1 c1] 35)).alloc (.cells #[.slice p2 n2 c2] 22)) [.int .i64 0] 3
    rw [World.size_alloc, World.size_alloc] at this
    exact this
  have t4 := hid (h2.out.keep b4)
  generalize hW4 : ((w1.alloc (.cells #[.slice p1 n1 c1] 35)).alloc (.cells #[.slice p2 n2 c2] 22)).alloc (.cells #[.int .i64 0] 3) = W4 at *
  clear C
  gi_wp2_with (refine ⟨trivial, ?_⟩; gi_at_call 40; refine (callsIn_wide.2 D0.out).mono ?_; rintro e w2 ⟨k1, k2, p3, n3, c3, l', bb, rfl, a1, a2, a3, a4, a5, a6, a7⟩; replace a7 := hid a7)
  have z2 := a7.out.size
  have eN : (flatL 0 l').length = (flatL 0 l).length := flatL_bare_len 0 l l' a5
  have ht' : (rowT l').length ≤ 2000000 := by rw [← rowT_bare l', a5, rowT_bare]; exact ht
  have hS := fun n' => all1_seq (fun b => b = w1.heap.size + 1 + 1) (fun g => W4.heap.size ≤ g) (fun b hb h => by omega) l' k1 k2 p3 n3 c3 bb w2 (fun b hb => by omega) a3 a4 (by omega) (by omega) (a6.mono (fun g hg _ => hg.1)) ht' n'
  have b3w : Below w.heap.size w w1 := Below.over b3 h2.out.bel
  have zw : w.heap.size + 3 ≤ w1.heap.size := by
    have := h2.out.bel.size
    simpa only [World.size_alloc] using this
  have bb3 : Below (((w.alloc (.cells #[.int .i64 most] 3)).alloc (.cells #[.int .i64 0] 3)).alloc (.cells #[.bool false] 4)).heap.size (((w.alloc (.cells #[.int .i64 most] 3)).alloc (.cells #[.int .i64 0] 3)).alloc (.cells #[.bool false] 4)) w2 := Below.over h2.out.bel (Below.over b4 a7.out)
  have v3 : VarAt w2 w.heap.size [.int .i64 most] 3 := (((VarAt.new w [.int .i64 most] 3).kept ((Below.refl _ _).alloc (Nat.le_refl _) _)).kept ((Below.refl _ _).alloc (Nat.le_refl _) _)).kept bb3
  have v4 : VarAt w2 (w.heap.size + 1) [.int .i64 0] 3 := by
    have := ((VarAt.new (w.alloc (.cells #[.int .i64 most] 3)) [.int .i64 0] 3).kept ((Below.refl _ _).alloc (Nat.le_refl _) (.cells #[.bool false] 4))).kept bb3
    rw [World.size_alloc] at this
    exact this
  have v5 : VarAt w2 (w.heap.size + 1 + 1) [.bool false] 4 := by
    have := (VarAt.new ((w.alloc (.cells #[.int .i64 most] 3)).alloc (.cells #[.int .i64 0] 3)) [.bool false] 4).kept bb3
    rw [World.size_alloc, World.size_alloc] at this
    exact this
  clear bb3
  have v6 := u6.kept a7.out
  have v7 := u7.kept a7.out
  have v8 := u8.kept a7.out
  replace hS := hid hS
  refine wpIn_range rfl rfl (gf := 48) (lb := #[.pointer (some ⟨k1, 0, none⟩), .pointer (some ⟨k2, 0, none⟩)]) rfl trivial (enters_of Try.func48 (by kernel_rfl) rfl) hS.out (fun b hb => by omega) (fun k args W h => by obtain ⟨x, s, _, rfl, _⟩ := h; rfl)
    (fun k X => Touch (fun b => b = w1.heap.size + 1 + 1) w2 X ∧ VarAt X (w1.heap.size + 1 + 1) [.int .i64 k] 3 ∧ (k : Int) ≤ max most 0) (fun c X => c = .exit 0 ∧ ∃ k : Nat, k < (flatL 0 l').length ∧ most ≤ k ∧ Touch (fun b => b = w1.heap.size + 1 + 1) w2 X ∧ VarAt X (w1.heap.size + 1 + 1) [.int .i64 k] 3 ∧ (k : Int) ≤ max most 0) ?hI ?hIx ⟨Touch.refl _ _, v8, by omega⟩
    (fun k a' X => ∃ (x : Int × St) (s : St) (b10 : Nat), (flatL 0 l')[k]? = some x ∧ s.bare = x.2.bare ∧ s.ok X (fun g => g ≠ w2.heap.size + 1) ∧ w2.heap.size + 2 ≤ b10 ∧ VarAt X b10 s.cells 52 ∧ a' = { tmps := (.slice pv l.length cv :: .int .i64 most :: undef :: .pointer (some ⟨w.heap.size, 0, none⟩) :: .pointer (some ⟨w.heap.size + 1, 0, none⟩) :: .pointer (some ⟨w.heap.size + 1 + 1, 0, none⟩) :: .pointer (some ⟨w1.heap.size, 0, none⟩) :: .pointer (some ⟨w1.heap.size + 1, 0, none⟩) :: .pointer (some ⟨w1.heap.size + 1 + 1, 0, none⟩) :: .int .i64 x.1 :: .pointer (some ⟨b10, 0, none⟩) :: .tuple #[.slice p1 n1 c1, .slice p2 n2 c2] :: .slice pv l.length cv :: .tuple #[.slice p1 n1 c1, .slice p2 n2 c2] :: .slice p1 n1 c1 :: .slice p2 n2 c2 :: .slice pv l.length cv :: .func (.func 48) #[] #[.pointer (some ⟨k1, 0, none⟩), .pointer (some ⟨k2, 0, none⟩)] :: .int .i64 x.1 :: .agg s.cells.toArray :: undef :: undef :: undef :: undef :: undef :: undef :: undef :: undef :: undef :: undef :: undef :: undef :: undef :: undef :: undef :: undef :: undef :: undef :: undef :: undef :: undef :: undef :: undef :: undef :: undef :: undef :: undef :: undef :: undef :: undef :: undef :: undef :: undef :: undef :: undef :: undef :: undef :: undef :: undef :: []).toArray, defers := [] }) ?hA ?assign ?body ?done ?stop
  case hI =>
    rintro k X X' ⟨h1, h3, h4⟩ hb
    exact ⟨h1.stays hb (Nat.le_refl _), (hb.block _ (by omega)).trans h3, h4⟩
  case hIx =>
    rintro c X X' ⟨e, k, h0, h5, h1, h3, h4⟩ hb
    exact ⟨e, k, h0, h5, h1.stays hb (Nat.le_refl _), (hb.block _ (by omega)).trans h3, h4⟩
  case hA =>
    rintro k a' X X' ⟨x, s, b10, e1, e2, e3, e4, e5, e6⟩ hb hs
    exact ⟨x, s, b10, e1, e2, e3.keep (fun g hg _ => hb g hg), e4, (hb b10 (by omega)).trans e5, e6⟩
  case assign =>
    rintro lp2 k args X K ⟨x, s, hx, rfl, hsb, hso⟩ hsz hK
    have one := hid hso.hd.one
    clear hS
    unfold St.val
    gi_wp2_with (refine wli_store_new 52 _ _ rfl rfl X 52 _ rfl X.heap.size rfl rfl s.cells rfl s.agg rfl one.out ?_)
    exact hK _ _ ((Below.refl _ _).alloc (Nat.le_refl _) _) ⟨x, s, X.heap.size, hx, hsb, hso.kept ((Below.refl _ _).alloc (Nat.le_refl _) _), by omega, VarAt.new X s.cells 52, rfl⟩
  case body =>
    rintro lp2 k a' X ⟨hT, hn8, hkm⟩ hk ⟨x, s, b10, hx, hsb, hso, hb10, hV10, rfl⟩ hsz
    have c8 := hn8.cell 0 (v := .int .i64 k) rfl
    have c3 := (v3.touch hT (by omega)).cell 0 (v := .int .i64 most) rfl
    have d8 := hn8.frozen 0
    have bX : Below w1.heap.size w1 X := (Below.over b4 a7.out).trans (hT.below (fun i hi => ⟨by omega, by omega⟩))
    obtain ⟨y, hy⟩ : ∃ y, (flatL 0 l)[k]? = some y := ⟨_, List.getElem?_eq_getElem (by omega)⟩
    obtain ⟨exy, ebare⟩ := flatL_bare_get 0 l l' a5 k x y hx hy
    have r1 := (RowAt.of_owns (F := fun g => g < w1.heap.size) h2.out.o1 (by simp; omega) (fun g hg => (own_lt h2.out.o1 hg).2)).keep (w' := X) (fun g hg _ => bX.block g hg)
    have r2 := (RowAt.of_owns (F := fun g => g < w1.heap.size) h2.out.o2 (by simp; omega) (fun g hg => (own_lt h2.out.o2 hg).2)).keep (w' := X) (fun g hg _ => bX.block g hg)
    obtain ⟨g1, cp1, ev1, _, _, hr1⟩ := RowAt.elem St.len r1 (k := k) (x := y.2) (by simp [hy])
    obtain ⟨g2, cp2, ev2, _, _, hr2⟩ := RowAt.elem (f := intC) (s := 1) (fun x => rfl) r2 (k := k) (x := y.1) (by simp [hy])
    obtain ⟨rfl, en1, rfl⟩ := Value.slice.inj ev1
    obtain ⟨rfl, en2, rfl⟩ := Value.slice.inj ev2
    simp only [List.length_map] at en1 en2
    have hmy := List.mem_of_getElem? hy
    have ty : y.2.ok X (fun _ => True) := ((flatL_ok 0 hl.2 y hmy).kept (Below.trans b3w (bX.mono (by omega)))).mono (fun _ _ _ => trivial)
    have sy : s.ok X (fun _ => True) := hso.mono (fun _ _ _ => trivial)
    have eb : s.bare = y.2.bare := hsb.trans ebare
    have lt : (rowT [s]).length ≤ 2000000 := by
      rw [rowT1_bare eb]
      exact Nat.le_trans (flatL_texts2 l 0 y hmy) ht
    have cd : X.cell? ⟨g2, k, none⟩ = some (.int .i64 x.1) := by
      have := hr2 0 (.int .i64 y.1) rfl
      rw [exy]
      simpa using this
    have t6 := hid (v6.touch hT (by omega))
    have t7 := hid (v7.touch hT (by omega))
    have t10 := hid hV10
    have kn1 : k < n1 := by omega
    have kn2 : k < n2 := by omega
    have n1b : n1 < 140737488355328 := by omega
    have e8 : wrap64 ((k : Int) + 1) = ((k + 1 : Nat) : Int) := by unfold wrap64; omega
    replace hr1 := hid hr1
    replace cd := hid cd
    replace sy := hid sy
    replace ty := hid ty
    replace eb := hid eb
    replace lt := hid lt
    replace zw := hid zw
    replace exy := hid exy
    replace en1 := hid en1
    replace en2 := hid en2
    replace ebare := hid ebare
    replace hsb := hid hsb
    clear hS r1 r2 ev1 ev2 hr2
    by_cases hbr : most ≤ (k : Int)
    · have hbd : decide (most ≤ (k : Int)) = true := decide_eq_true hbr
      gi_wp2
      exact ⟨Touch.refl _ _, rfl, k, hk, hbr, hT, hn8, hkm⟩
    · have hbd : decide (most ≤ (k : Int)) = false := decide_eq_false hbr
      have kk := hid (nextK k most hbr)
      gi_wp2_with fail
      refine gone7 X w1.heap.size (w1.heap.size + 1) (w1.heap.size + 1 + 1) b10 g1 g2 k n1 n2 c1 c2 x.1 s y.2 _ _ _ _ _ _ _ _ _ _ _ _ _ _ _ _ _ _ _ _ _ _ _ _ _ _ _ _ _ _ _ _ _ _ _ _ _ _ _ _ _ _ _ _ _ _ _ _ _ _ _ _ _ _ t6.out t7.out hn8 t10.out kn1 kn2 n1b cd.out hr1.out sy.out ty.out eb.out lt.out ?ho ?hp ?_
      case ho => exact fun ⟨a, w, h⟩ => h
      case hp => exact fun c a a' w h => h
      intro x23 x24 x25 x26 x27 x28 x29 x30 x31 x32 x33 x34 x35 x36 x37 x38 x39 x40 x41 x42 x43 x44 x45 x46 X' hb'
      have n8 := hn8.kept hb'
      have c8' := n8.cell 0 (v := .int .i64 k) rfl
      have d8' := n8.frozen 0
      clear c8 d8 c3
      replace hn8 := hid hn8
      replace n8 := hid n8
      replace hb' := hid hb'
      replace hT := hid hT
      replace hbr := hid hbr
      clear hW4 t4 h2 u6 v6 u7 v7 u8 v8 v3 v4 v5 t6 t7 t10 hr1 cd sy ty eb lt exy en1 en2 ebare hsb hbd kn1 kn2 n1b hmy hy hso hV10 hx bX hsz hb10 a3 a4 a5 a6 a7 eN ht' b3w D0 b3 hl b4
      gi_wp2_with fail
      have t := turnN hb'.out (w1.heap.size + 1 + 1) (.int .i64 ((k : Int) + 1))
      exact ⟨t, hT.out.trans t, nextN n8.out, kk.out⟩
  case done =>
    rintro D X ⟨h1, h3, h4⟩ hD hK
    obtain ⟨k, hkN⟩ : ∃ k, k = (flatL 0 l').length := ⟨_, rfl⟩
    rw [← hkN] at h3 h4
    have x3 := hid (v3.touch h1 (by omega))
    have x4 := hid (v4.touch h1 (by omega))
    have x5 := hid (v5.touch h1 (by omega))
    have x6 := hid (v6.touch h1 (by omega))
    have eN1 : n1 = (flatL 0 l).length := by
      have := (RowAt.of_owns (F := fun _ => True) h2.out.o1 (by simp; omega) (fun _ _ => trivial)).form
      obtain ⟨_, _, e⟩ := this
      obtain ⟨_, e, _⟩ := Value.slice.inj e
      simpa using e
    have ek : (k : Int) = min (max most 0) n1 := by omega
    have q1 : Below w.heap.size w w2 := Below.over b3w (Below.over b4 a7.out)
    replace eN1 := hid eN1
    replace ek := hid ek
    replace h1 := hid h1
    replace h3 := hid h3
    replace q1 := hid q1
    clear hW4 t4 h2 u6 v6 u7 v7 u8 v8 v3 v4 v5 hS D0 b3 b3w b4 a3 a4 a5 a6 a7 eN ht' hl h4 hkN
    gi_wp2_with fail
    refine wpIn_calm (wpIn_wide.2 ?_)
    refine gone10 X w.heap.size (w.heap.size + 1) (w.heap.size + 1 + 1) w1.heap.size (w1.heap.size + 1 + 1) k n1 c1 p1 most _ _ _ _ _ _ _ _ _ _ _ _ _ _ _ _ _ _ _ _ _ _ _ _ _ _ _ _ _ _ _ _ _ _ _ _ _ _ _ _ _ _ _ _ _ _ _ _ _ _ _ _ _ _ _ x3.out x4.out x5.out x6.out h3.out (by omega) (by omega) (by omega) (by omega) (by omega) (by omega) (by omega) ek.out ?hp ?_
    case hp => exact fun c a a' w h => h
    intro x51 x52 x53 x54 x55 x56 x57 x58 X' g4 g5 gt
    have hK' : X'.heap[D]? = some (.deferred (some [])) := (gt.block D (Array.getElem?_eq_some_iff.1 hK).1 (by omega)).trans hK
    replace g4 := hid g4
    replace g5 := hid g5
    replace gt := hid gt
    gi_wp2_with fail
    have hb := below_putObj X' D (.deferred none) hD
    refine ⟨by simp, .inl ⟨_, _, rfl, run_takeDeferred hK', ?_⟩⟩
    refine ⟨_, results_cells rfl _ _ (w.heap.size + 1) (w.heap.size + 1 + 1) (.int .i64 k) (.bool true) rfl rfl (loadVar3 _ _ _ ((hb.block _ (by omega)).trans g4.out)) (loadVar4 _ _ _ ((hb.block _ (by omega)).trans g5.out)), ?_, ?_⟩
    · rw [ek.out, eN1.out]
    · have q2 : Below w.heap.size w2 X := h1.out.below (fun i hi => ⟨by omega, by omega⟩)
      have q3 : Below w.heap.size X X' := gt.out.below (fun i hi => ⟨by have := h1.out.size; omega, by omega⟩)
      exact ((q1.out.trans q2).trans q3).trans (hb.mono (by omega))
  case stop =>
    rintro D c X ⟨rfl, k, hk, hbr, h1, h3, h4⟩ hD hK
    have x3 := hid (v3.touch h1 (by omega))
    have x4 := hid (v4.touch h1 (by omega))
    have x5 := hid (v5.touch h1 (by omega))
    have x6 := hid (v6.touch h1 (by omega))
    have eN1 : n1 = (flatL 0 l).length := by
      have := (RowAt.of_owns (F := fun _ => True) h2.out.o1 (by simp; omega) (fun _ _ => trivial)).form
      obtain ⟨_, _, e⟩ := this
      obtain ⟨_, e, _⟩ := Value.slice.inj e
      simpa using e
    have ek : (k : Int) = min (max most 0) n1 := by omega
    have q1 : Below w.heap.size w w2 := Below.over b3w (Below.over b4 a7.out)
    replace eN1 := hid eN1
    replace ek := hid ek
    replace h1 := hid h1
    replace h3 := hid h3
    replace q1 := hid q1
    clear hW4 t4 h2 u6 v6 u7 v7 u8 v8 v3 v4 v5 hS D0 b3 b3w b4 a3 a4 a5 a6 a7 eN ht' hl h4 hk hbr
    gi_wp2_with fail
    refine wpIn_calm (wpIn_wide.2 ?_)
    refine gone10 X w.heap.size (w.heap.size + 1) (w.heap.size + 1 + 1) w1.heap.size (w1.heap.size + 1 + 1) k n1 c1 p1 most _ _ _ _ _ _ _ _ _ _ _ _ _ _ _ _ _ _ _ _ _ _ _ _ _ _ _ _ _ _ _ _ _ _ _ _ _ _ _ _ _ _ _ _ _ _ _ _ _ _ _ _ _ _ _ x3.out x4.out x5.out x6.out h3.out (by omega) (by omega) (by omega) (by omega) (by omega) (by omega) (by omega) ek.out ?hp ?_
    case hp => exact fun c a a' w h => h
    intro x51 x52 x53 x54 x55 x56 x57 x58 X' g4 g5 gt
    have hK' : X'.heap[D]? = some (.deferred (some [])) := (gt.block D (Array.getElem?_eq_some_iff.1 hK).1 (by omega)).trans hK
    replace g4 := hid g4
    replace g5 := hid g5
    replace gt := hid gt
    gi_wp2_with fail
    have hb := below_putObj X' D (.deferred none) hD
    refine ⟨by simp, .inl ⟨_, _, rfl, run_takeDeferred hK', ?_⟩⟩
    refine ⟨_, results_cells rfl _ _ (w.heap.size + 1) (w.heap.size + 1 + 1) (.int .i64 k) (.bool true) rfl rfl (loadVar3 _ _ _ ((hb.block _ (by omega)).trans g4.out)) (loadVar4 _ _ _ ((hb.block _ (by omega)).trans g5.out)), ?_, ?_⟩
    · rw [ek.out, eN1.out]
    · have q2 : Below w.heap.size w2 X := h1.out.below (fun i hi => ⟨by omega, by omega⟩)
      have q3 : Below w.heap.size X X' := gt.out.below (fun i hi => ⟨by have := h1.out.size; omega, by omega⟩)
      exact ((q1.out.trans q2).trans q3).trans (hb.mono (by omega))
end Go.Proofs.Ytfdfeiempeciiaa

/- How many statements a program that is made of numbers has: 60 at most. No Go in it. -/
namespace Go.Proofs.Ytfdfeiempeciiaa
open Go.ChangeShapes Go.WideShapes Go.ChangeAt Go.RowKit
set_option linter.unusedVariables false

theorem rows_len (l : List St) (h : ∀ s ∈ l, ∀ d d', (s.flat d).length = (s.flat d').length) (d d' : Int) : (flatL d l).length = (flatL d' l).length := by
  induction l with
  | nil => rfl
  | cons a l ih =>
    have h1 := h a (by simp) d d'
    have h2 := ih (fun s hs => h s (by simp [hs]))
    simp only [flatL, List.flatMap_cons, List.length_append] at h1 h2 ⊢
    omega
theorem flat_lenD (s : St) : ∀ d d', (s.flat d).length = (s.flat d').length := by
  induction s using St.ind with
  | h s ih1 ih2 =>
    intro d d'
    rw [St.flat_eq, St.flat_eq]
    simp only [List.length_cons, List.length_append]
    rw [rows_len s.body (fun k hk => ih1 k hk) _ (wrap64 (d' + 1)), rows_len s.els (fun k hk => ih2 k hk) _ (wrap64 (d' + 1))]
theorem flatL_len0 (l : List St) (d : Int) : (flatL d l).length = (flatL 0 l).length := rows_len l (fun s _ => flat_lenD s) d 0
/-- How many statements. -/
def cnt (l : List St) : Nat := (flatL 0 l).length
theorem cnt_nil : cnt [] = 0 := rfl
theorem cnt_app (l m : List St) : cnt (l ++ m) = cnt l + cnt m := by simp [cnt, flatL_app]
theorem cnt_cons (s : St) (l : List St) : cnt (s :: l) = 1 + cnt s.body + cnt s.els + cnt l := by
  unfold cnt
  rw [flatL_cons]
  simp only [List.length_cons, List.length_append]
  rw [flatL_len0 s.body, flatL_len0 s.els]
  omega
theorem stmtO_cnt (N : List Int) (row : Nat → Nat → (List St × Nat) × Nat) (hr : ∀ i l, cnt (row i l).1.1 + (row i l).2 ≤ l) (o i l : Nat) : cnt (stmtO N row o i l).1.1.body + cnt (stmtO N row o i l).1.1.els + (stmtO N row o i l).2 ≤ l := by
  have h0 := cnt_nil
  unfold stmtO
  repeat' split
  all_goals simp only [St.zero, h0]
  all_goals first
    | omega
    | (have := hr i l; omega)
    | (have := hr (exprM N 2 i).2 l; omega)
    | (have a1 := hr (exprM N 2 i).2 l; have a2 := hr (nx N (row (exprM N 2 i).2 l).1.2) (row (exprM N 2 i).2 l).2; omega)
    | (have := hr (nx N (nx N (nx N i))) l; omega)
    | (have := hr (nx N (nx N i)) l; omega)
theorem rowF_cnt (stmt : Nat → Nat → (St × Nat) × Nat) (hs : ∀ i l, cnt (stmt i l).1.1.body + cnt (stmt i l).1.1.els + (stmt i l).2 ≤ l) (n : Nat) : ∀ i l, cnt (rowF stmt n i l).1.1 + (rowF stmt n i l).2 ≤ l := by
  induction n with
  | zero => intro i l; simp [rowF, cnt_nil]
  | succ n ih =>
    intro i l
    unfold rowF
    split
    · simp [cnt_nil]
    · have h1 := hs i (l - 1)
      have h2 := ih (stmt i (l - 1)).1.2 (stmt i (l - 1)).2
      simp only [cnt_cons]
      omega
theorem rowM_cnt (N : List Int) (d : Nat) : ∀ i l, cnt (rowM N d i l).1.1 + (rowM N d i l).2 ≤ l := by
  induction d with
  | zero =>
    intro i l
    unfold rowM
    exact rowF_cnt _ (fun i l => stmtO_cnt N _ (fun i l => by simp [cnt_nil]) _ _ _) _ _ _
  | succ d ih =>
    intro i l
    unfold rowM
    exact rowF_cnt _ (fun i l => stmtO_cnt N _ ih _ _ _) _ _ _
theorem funsM_cnt (N : List Int) (k : Nat) : ∀ i l, ((funsM N k i l).1.1.map (fun f => cnt f.body)).sum + (funsM N k i l).2 ≤ l := by
  induction k with
  | zero => intro i l; simp [funsM]
  | succ k ih =>
    intro i l
    have h1 := rowM_cnt N 2 (namesM N 3 (nx N i)).2 l
    have h2 := ih (rowM N 2 (namesM N 3 (nx N i)).2 l).1.2 (rowM N 2 (namesM N 3 (nx N i)).2 l).2
    simp only [funsM, List.map_cons, List.sum_cons]
    omega
theorem thsM_cnt (N : List Int) (k : Nat) : ∀ i l, ((thsM N k i l).1.1.map (fun f => cnt f.body)).sum + (thsM N k i l).2 ≤ l := by
  induction k with
  | zero => intro i l; simp [thsM]
  | succ k ih =>
    intro i l
    have h1 := rowM_cnt N 3 i l
    have h2 := ih (rowM N 3 i l).1.2 (rowM N 3 i l).2
    simp only [thsM, List.map_cons, List.sum_cons]
    omega
theorem makeM_cnt (N : List Int) : ((makeM N).funs.map (fun f => cnt f.body)).sum + ((makeM N).threads.map (fun f => cnt f.body)).sum ≤ 60 := by
  have h1 := funsM_cnt N (pk N 3 (globsN N).2) (nx N (globsN N).2) 60
  have h2 := thsM_cnt N (pk N 4 (funsN N).1.2) (nx N (funsN N).1.2) (funsN N).2
  simp only [makeM]
  simp only [thsN, funsN] at *
  omega
theorem cnt_bare (l : List St) : cnt (l.map St.bare) = cnt l := by
  have := flatL_bare_len 0 (l.map St.bare) l (by rw [List.map_map]; exact List.map_congr_left (fun x _ => (St.bare_bare x).symm))
  exact this.symm
theorem Pg.cnt_funs (p : Pg) : p.bare.funs.map (fun f => cnt f.body) = p.funs.map (fun f => cnt f.body) := by
  simp only [Pg.bare, List.map_map]
  exact List.map_congr_left (fun f _ => by simp [Fn.bare, cnt_bare])
theorem Pg.cnt_ths (p : Pg) : p.bare.threads.map (fun f => cnt f.body) = p.threads.map (fun f => cnt f.body) := by
  simp only [Pg.bare, List.map_map]
  exact List.map_congr_left (fun f _ => by simp [Th.bare, cnt_bare])
theorem MakeOut.cnts {w w' : World} {N : List Int} {p : Pg} (h : MakeOut w w' N p) : (p.funs.map (fun f => cnt f.body)).sum + (p.threads.map (fun f => cnt f.body)).sum ≤ 60 := by
  rw [← Pg.cnt_funs, ← Pg.cnt_ths, h.bare]
  exact makeM_cnt N
theorem mem_sum_le {α : Type} (g : α → Nat) (l : List α) (x : α) (h : x ∈ l) : g x ≤ (l.map g).sum := by
  induction l with
  | nil => simp at h
  | cons a l ih =>
    simp only [List.map_cons, List.sum_cons]
    simp only [List.mem_cons] at h
    rcases h with rfl | h
    · omega
    · have := ih h
      omega
theorem MakeOut.cnt_th {w w' : World} {N : List Int} {p : Pg} (h : MakeOut w w' N p) : ∀ t ∈ p.threads, cnt t.body ≤ 60 := fun t ht => by
  have h1 := h.cnts
  have h2 := mem_sum_le (fun f : Th => cnt f.body) p.threads t ht
  omega
theorem MakeOut.cnt_fn {w w' : World} {N : List Int} {p : Pg} (h : MakeOut w w' N p) : ∀ t ∈ p.funs, cnt t.body ≤ 60 := fun t ht => by
  have h1 := h.cnts
  have h2 := mem_sum_le (fun f : Fn => cnt f.body) p.funs t ht
  omega
end Go.Proofs.Ytfdfeiempeciiaa

/- For TreeRows: rows put one behind the other. -/
namespace Go.Proofs.Ytfdfeiempeciiaa
open Go.ChangeShapes Go.WideShapes Go.ChangeAt Go.RowKit
set_option linter.unusedVariables false

theorem Pg.ones {w : World} {F : Nat → Prop} (p : Pg) (h : p.ok w F) : ∀ v ∈ p.cells, v.oneCell' = true := by
  intro v hv
  simp only [Pg.cells, List.mem_cons, List.not_mem_nil, or_false] at hv
  rcases hv with rfl | rfl | rfl | rfl
  · exact h.1.1.one
  · exact h.2.1.1.one
  · exact h.2.2.1.1.one
  · exact h.2.2.2.1.one
theorem rows_texts {w w' : World} {F G : Nat → Prop} {v u : Value} (a b : List St) (ha : stsOk w F v a) (hb : stsOk w' G u b) : sameT (rowT a) (rowT b) = eqL St.same a b := by
  have := rowT_same a b ha hb [] []
  simpa [sameT, eqL] using this
theorem eqL_app {α β : Type} (p : α → β → Bool) : ∀ (a : List α) (b : List β) (c : List α) (d : List β), a.length = b.length → eqL p (a ++ c) (b ++ d) = (eqL p a b && eqL p c d)
  | [], [], c, d, _ => by simp [eqL]
  | x :: a, y :: b, c, d, h => by
    simp only [List.length_cons, Nat.add_right_cancel_iff] at h
    simp only [List.cons_append, eqL]
    rw [eqL_app p a b c d h, Bool.and_assoc]
  | [], y :: b, c, d, h => by simp at h
  | x :: a, [], c, d, h => by simp at h
theorem sameT_symm : ∀ (a b : List ByteArray), sameT a b = true → sameT b a = true
  | [], [], _ => rfl
  | x :: a, y :: b, h => by
    rw [sameT_cons] at h ⊢
    simp only [Bool.and_eq_true, beq_iff_eq] at h ⊢
    exact ⟨h.1.symm, sameT_symm a b h.2⟩
  | [], y :: b, h => by simp [sameT, eqL] at h
  | x :: a, [], h => by simp [sameT, eqL] at h
theorem rows_symm {w w' : World} {F G : Nat → Prop} {v u : Value} (a b : List St) (ha : stsOk w F v a) (hb : stsOk w' G u b) (h : eqL St.same a b = true) : eqL St.same b a = true := by
  rw [← rows_texts a b ha hb] at h
  rw [← rows_texts b a hb ha]
  exact sameT_symm _ _ h
theorem eqL_len_of {α β : Type} (p : α → β → Bool) (l : List α) (m : List β) (h : eqL p l m = true) : l.length = m.length := by
  by_cases e : l.length = m.length
  · exact e
  · rw [eqL_len p l m e] at h
    cases h
theorem rows_turned {w w' : World} {F G : Nat → Prop} {v u : Value} (a b : List St) (ha : stsOk w F v a) (hb : stsOk w' G u b) (h : eqL St.same a b = true) : eqL St.same (a ++ b) (b ++ a) = true := by
  rw [eqL_app _ a b b a (eqL_len_of _ _ _ h), h, rows_symm a b ha hb h]
  rfl
/-- A row of the call's own. -/
structure RowOwn (W w' : World) (v : Value) (l : List St) : Prop where
  own : w'.ownsRow W.heap.size 52 58 v l.length (l.flatMap St.cells)
  bel : Below W.heap.size W w'
theorem RowOwn.sts {W w' : World} {v : Value} {l : List St} (h : RowOwn W w' v l) (hl : l.length ≤ 2000000) {F : Nat → Prop} (ho : ∀ s ∈ l, s.ok W F) : stsOk w' (fun _ => True) v l :=
  ⟨RowAt.of_owns h.own (by omega) (fun _ _ => trivial), fun k hk => ((ho k hk).kept h.bel).mono (fun _ _ _ => trivial)⟩
theorem grown_below {W W1 w' : World} {row : Option Nat} {B : Nat} (b : Below B W W1) (h : W1.grownBy w' row) (hr : ∀ g, row = some g → B ≤ g) (hB : B ≤ W1.heap.size) : Below B W w' :=
  b.trans ⟨h.os, h.tape, h.output, h.size, fun i hi => h.block i (by omega) (fun e => by have := hr i e.symm; omega)⟩
theorem sts_ones {w : World} {F : Nat → Prop} {v : Value} {l : List St} (h : stsOk w F v l) : ∀ x ∈ l.flatMap St.cells, x.oneCell' = true := sts_one h.2
section
variable {ops : Array Oper} {rest : List Oper} {o : Oper} {a : Act} {Q : Exit → Act → World → Prop}
theorem wl_rows1 (hgd : o.guard = none) (s x : Operand) (ho : o.op = .call { callee := .builtin .append, args := #[s, x], argTypes := #[35, 35] }) (W : World) (hs : a.eval s = .slice (some ⟨W.heap.size, 0, none⟩) 0 0) (u : Value) (hx : a.eval x = u)
    (F : Nat → Prop) (l : List St) (hu : stsOk W F u l) (hl : l.length ≤ 1000000) (h : ∀ v' w', RowOwn W w' v' l → wpList Try.prog ops Q rest (a.put o.dst v') w') : wpList Try.prog ops Q (o :: rest) a (W.alloc (.cells #[] 52)) := by
  have ba : Below W.heap.size W (W.alloc (.cells #[] 52)) := (Below.refl _ _).alloc (Nat.le_refl _) _
  refine wl_append_row hgd s x 35 ho W.heap.size 52 St.zero.val 58 688 Try.underlying35 info52 rfl (by decide) _ hs 0 [] (own_empty W 52 58) u hx F l.length (l.flatMap St.cells) (hu.kept ba).1 (sts_ones hu) (by omega) (by decide) ba.size ?_
  intro v' w' h1 h2 h3
  refine h v' w' ⟨?_, grown_below ba h2 (fun g hg => by simp [Value.ownBlock] at hg; omega) ba.size⟩
  simpa using h1
theorem wl_rows2 (hgd : o.guard = none) (s x : Operand) (ho : o.op = .call { callee := .builtin .append, args := #[s, x], argTypes := #[35, 35] }) (W w : World) (v : Value) (hs : a.eval s = v) (l : List St) (hr : RowOwn W w v l) (u : Value) (hx : a.eval x = u)
    (F : Nat → Prop) (m : List St) (hu : stsOk W F u m) (hl : l.length ≤ 1000000) (hm : m.length ≤ 1000000) (h : ∀ v' w', RowOwn W w' v' (l ++ m) → wpList Try.prog ops Q rest (a.put o.dst v') w') : wpList Try.prog ops Q (o :: rest) a w := by
  refine wl_append_row hgd s x 35 ho W.heap.size 52 St.zero.val 58 688 Try.underlying35 info52 rfl (by decide) v hs l.length (l.flatMap St.cells) hr.own u hx F m.length (m.flatMap St.cells) (hu.kept hr.bel).1 (sts_ones hu) (by omega) (by decide) hr.bel.size ?_
  intro v' w' h1 h2 h3
  refine h v' w' ⟨?_, grown_below hr.bel h2 (fun g hg => (own_lt hr.own hg).1) hr.bel.size⟩
  simpa using h1
end
theorem goneN (l : List St) (v : Value) (w : World) (F : Nat → Prop) (hl : stsOk w F v l) (ht : (rowT l).length ≤ 2000000) (hn : cnt l ≤ 1000) :
    Calls Try.prog 17 #[v, .int .i64 1000] w fun e w' => e = .returned (.tuple #[.int .i64 (cnt l), .bool true]) ∧ Below w.heap.size w w' := by
  have := gone_any l v 1000 w F hl ht (by unfold cnt at hn; omega) (by unfold I64; omega)
  rw [show min (max (1000 : Int) 0) ((flatL 0 l).length : Int) = (cnt l : Int) by unfold cnt at *; omega] at this
  exact this
theorem rowT_app (l m : List St) : (rowT (l ++ m)).length + 2 = (rowT l).length + (rowT m).length := by
  simp only [rowT, List.flatMap_append, List.length_append, List.length_cons, List.length_nil]
  omega
theorem rowT_len (l : List St) : l.length + 2 ≤ (rowT l).length := by
  have h : l.length ≤ (l.flatMap St.texts).length := by
    induction l with
    | nil => simp
    | cons a l ih =>
      have := St.texts_len a
      simp only [List.flatMap_cons, List.length_append, List.length_cons]
      omega
  simp only [rowT, List.length_append, List.length_cons, List.length_nil]
  omega
def ex1 : Ex := { Ex.zero with n := 1 }
def ex2 : Ex := { Ex.zero with n := 1, line := 4 }
theorem ex12 : eqL Ex.same [ex1] [ex2] = true := by
  have : ex1.same ex2 = true := by rw [Ex.same_eq]; simp [ex1, ex2, Ex.zero, eqL]
  simp [eqL, this]
theorem ex1_ok (w : World) (F : Nat → Prop) : ex1.ok w F := (Ex.ok_iff _ _ _).2 ⟨by simp [ex1, Ex.zero, I64, U64], RowAt.nil _ _ _, by simp [ex1, Ex.zero]⟩
theorem ex2_ok (w : World) (F : Nat → Prop) : ex2.ok w F := (Ex.ok_iff _ _ _).2 ⟨by simp [ex2, Ex.zero, I64, U64], RowAt.nil _ _ _, by simp [ex2, Ex.zero]⟩
theorem exprs12 (w : World) : Calls Try.prog 21 #[.slice (some ⟨w.heap.size, 0, none⟩) 1 1, .slice (some ⟨w.heap.size + 1, 0, none⟩) 1 1] ((w.alloc (.cells ex1.cells.toArray 46)).alloc (.cells ex2.cells.toArray 46)) fun e w' => e = .returned (.bool true) ∧ Below w.heap.size w w' := by
  have b1 : Below (w.alloc (.cells ex1.cells.toArray 46)).heap.size (w.alloc (.cells ex1.cells.toArray 46)) ((w.alloc (.cells ex1.cells.toArray 46)).alloc (.cells ex2.cells.toArray 46)) := (Below.refl _ _).alloc (Nat.le_refl _) _
  have r1 : RowAt ((w.alloc (.cells ex1.cells.toArray 46)).alloc (.cells ex2.cells.toArray 46)) (fun _ => True) 9 (.slice (some ⟨w.heap.size, 0, none⟩) 1 1) 1 ex1.cells := (RowAt.made w ex1.cells 46 (fun _ => True) trivial 9 ex1.len).kept b1
  have r2 : RowAt ((w.alloc (.cells ex1.cells.toArray 46)).alloc (.cells ex2.cells.toArray 46)) (fun _ => True) 9 (.slice (some ⟨w.heap.size + 1, 0, none⟩) 1 1) 1 ex2.cells := by
    have := RowAt.made (w.alloc (.cells ex1.cells.toArray 46)) ex2.cells 46 (fun _ => True) trivial 9 ex2.len
    rw [World.size_alloc] at this
    exact this
  have := exprs_any [ex1] [ex2] _ _ _ (fun _ => True) (fun _ => True) ⟨by simpa using r1, fun k hk => by simp at hk; subst hk; exact ex1_ok _ _⟩ ⟨by simpa using r2, fun k hk => by simp at hk; subst hk; exact ex2_ok _ _⟩
  rw [ex12] at this
  exact this.mono (fun e w' h => ⟨h.1, Below.over (below_two w _ _) h.2⟩)
theorem thsM_rows (N : List Int) (k : Nat) : ∀ i l, ∀ t ∈ (thsM N k i l).1.1, (rowT t.body).length ≤ 325565 := by
  induction k with
  | zero => intro i l t ht; simp [thsM] at ht
  | succ k ih =>
    intro i l t ht
    simp only [thsM, List.mem_cons] at ht
    rcases ht with rfl | ht
    · exact rowM3 N i l
    · exact ih _ _ t ht
theorem MakeOut.rows3 {w w' : World} {N : List Int} {p : Pg} (h : MakeOut w w' N p) : ∀ t ∈ p.threads, (rowT t.body).length ≤ 325565 := fun t ht => by
  have hm : t.bare ∈ (makeM N).threads := by
    rw [← h.bare]
    simp only [Pg.bare]
    exact List.mem_map_of_mem ht
  have := thsM_rows N _ _ _ _ hm
  simp only [Th.bare] at this
  rw [rowT_bare] at this
  exact this
end Go.Proofs.Ytfdfeiempeciiaa

/- The walk of TreeRows. -/
namespace Go.Proofs.Ytfdfeiempeciiaa
open Go.ChangeShapes Go.WideShapes Go.ChangeAt Go.RowKit
set_option linter.unusedVariables false

set_option maxRecDepth 100000 in
set_option maxHeartbeats 1000000 in
theorem rows_law (v0 v1 : Value) (N M : List Int) (w : World) (hI : IsInts w w.heap.size v0 N) (hJ : IsInts w w.heap.size v1 M) :
    Calls Try.prog 6 #[v0, v1] w fun e w' => e = .returned (.bool true) ∧ Below w.heap.size w w' := by
  obtain ⟨av, capv, hv, hi⟩ := hI
  have hI : Hid (IsInts w w.heap.size v0 N) := hid ⟨av, capv, hv, hi⟩
  subst hv
  obtain ⟨au, capu, hu, hi2⟩ := hJ
  have hJ : Hid (IsInts w w.heap.size v1 M) := hid ⟨au, capu, hu, hi2⟩
  subst hu
  clear hi hi2
  go_enter Try.func6, Try.ntmps6
  go_wp2_with fail
  refine (alive_any _).mono ?_
  rintro e wa ⟨rfl, hba⟩
  replace hba := hid hba
  by_cases hf : N.length ≤ 400 ∧ M.length ≤ 400
  · obtain ⟨hf1, hf2⟩ := hf
    have g1 : decide ((N.length : Int) > 400) = false := by simp; omega
    have g2 : decide ((M.length : Int) > 400) = false := by simp; omega
    have hIa := hid ((hI.out.keep (fun b hb => hba.out.block b hb)).up hba.out.size)
    have hJa := hid ((hJ.out.keep (fun b hb => hba.out.block b hb)).up hba.out.size)
    go_wp2_with fail
    refine (make_any _ _ N hIa.out hf1).mono ?_
    rintro e wb ⟨p, rfl, mp⟩
    replace mp := hid mp
    have hJb := hid ((hJa.out.keep (fun b hb => mp.out.bel.block b hb)).up mp.out.bel.size)
    go_wp2_with fail
    refine (make_any _ _ M hJb.out hf2).mono ?_
    rintro e wm ⟨q, rfl, mq⟩
    replace mq := hid mq
    unfold Pg.val
    have V7 : Hid (VarAt ((wm.alloc (.cells #[.slice none 0 0, .slice none 0 0, .slice none 0 0, .slice none 0 0] 29)).alloc (.cells #[.slice none 0 0, .slice none 0 0, .slice none 0 0, .slice none 0 0] 29)) wm.heap.size [.slice none 0 0, .slice none 0 0, .slice none 0 0, .slice none 0 0] 29) := hid ((VarAt.new wm [.slice none 0 0, .slice none 0 0, .slice none 0 0, .slice none 0 0] 29).kept ((Below.refl _ _).alloc (Nat.le_refl _) _))
    have V8 : Hid (VarAt ((wm.alloc (.cells #[.slice none 0 0, .slice none 0 0, .slice none 0 0, .slice none 0 0] 29)).alloc (.cells #[.slice none 0 0, .slice none 0 0, .slice none 0 0, .slice none 0 0] 29)) (wm.heap.size + 1) [.slice none 0 0, .slice none 0 0, .slice none 0 0, .slice none 0 0] 29) := hid (by
      have := VarAt.new (wm.alloc (.cells #[.slice none 0 0, .slice none 0 0, .slice none 0 0, .slice none 0 0] 29)) [.slice none 0 0, .slice none 0 0, .slice none 0 0, .slice none 0 0] 29
      rw [World.size_alloc] at this
      exact this)
    have B0 : Hid (Below wm.heap.size wm ((wm.alloc (.cells #[.slice none 0 0, .slice none 0 0, .slice none 0 0, .slice none 0 0] 29)).alloc (.cells #[.slice none 0 0, .slice none 0 0, .slice none 0 0, .slice none 0 0] 29))) := hid (below_two _ _ _)
    have o7 := hid (Pg.ones p mp.out.ok)
    have o8 := hid (Pg.ones q mq.out.ok)
    generalize hWW : ((wm.alloc (.cells #[.slice none 0 0, .slice none 0 0, .slice none 0 0, .slice none 0 0] 29)).alloc (.cells #[.slice none 0 0, .slice none 0 0, .slice none 0 0, .slice none 0 0] 29)) = WW at *
    replace hWW := hid hWW
    go_upto_region 6 with (first
        | (refine wl_store_part 29 _ _ rfl rfl wm.heap.size 0 rfl p.cells rfl agg29 o7.out _ _ (by rw [hWW.out]; exact V7.out) (by simp [Pg.cells]) ?_
           intro w7 V7' t7
           replace t7 := hid (hWW.out ▸ t7)
           replace V8 := hid (V8.out.touch t7.out (by omega))
           replace V7' := hid V7')
        | (refine wl_store_part 29 _ _ rfl rfl (wm.heap.size + 1) 0 rfl q.cells rfl agg29 o8.out _ _ V8.out (by simp [Pg.cells]) ?_
           intro w8 V8' t8
           replace V7' := hid (V7'.out.touch t8 (by omega))
           replace V8' := hid V8'
           replace t8 := hid t8))
    rw [splice_full _ _ (by simp [Pg.cells])] at V8' V7'
    have tt : Hid (Touch (fun g => wm.heap.size ≤ g) WW w8) := hid ((t7.out.mono (fun g _ h => by omega)).trans (t8.out.mono (fun g _ h => by omega)))
    have Bq : Hid (Below wm.heap.size wm w8) := hid (B0.out.trans (tt.out.below (fun i hi => ⟨by have := B0.out.size; omega, by omega⟩)))
    have pk : Hid (p.ok w8 (fun _ => True)) := hid ((mp.out.ok.mono (fun _ _ _ => trivial)).kept (Below.over mq.out.bel Bq.out))
    have qk : Hid (q.ok w8 (fun _ => True)) := hid ((mq.out.ok.mono (fun _ _ _ => trivial)).kept Bq.out)
    have B8 : Hid (Below w.heap.size w w8) := hid (Below.over hba.out (Below.over mp.out.bel (Below.over mq.out.bel Bq.out)))
    have rp := hid mp.out.rows3
    have rq := hid mq.out.rows3
    have cp := hid mp.out.cnt_th
    have cq := hid mq.out.cnt_th
    clear t7 t8 V7 V8 hWW o7 o8 tt Bq B0 mp mq hIa hJa hJb hI hJ hba
    obtain ⟨pt, ct, ept⟩ := pk.out.2.2.2.1.form
    obtain ⟨qt, dt, eqt⟩ := qk.out.2.2.2.1.form
    have k7 : w8.cell? ⟨wm.heap.size, 3, none⟩ = some (.slice pt p.threads.length ct) := by rw [← ept]; exact V7'.out.cell 3 rfl
    have k8 : w8.cell? ⟨wm.heap.size + 1, 3, none⟩ = some (.slice qt q.threads.length dt) := by rw [← eqt]; exact V8'.out.cell 3 rfl
    have n47 := pk.out.2.2.2.1.1.2
    have n48 := qk.out.2.2.2.1.1.2
    have ths := pk.out.2.2.2
    rw [ept] at ths
    replace ths := hid ths
    have qhs := qk.out.2.2.2
    rw [eqt] at qhs
    replace qhs := hid qhs
    replace ept := hid ept
    replace eqt := hid eqt
    simp only [Act.put]
    by_cases hne : p.threads.length = 0 ∨ q.threads.length = 0
    · by_cases hp0 : p.threads.length = 0
      · have b7 : ((p.threads.length : Int) == 0) = true := by rw [beq_iff_eq]; omega
        have z7 : (p.threads.length : Int) = 0 := by omega
        clear ths qhs ept eqt V7' V8' pk qk rp rq cp cq hne
        go_wp2_with fail
        go_ret
        exact ⟨rfl, B8.out⟩
      · have hq0 : q.threads.length = 0 := by omega
        have b7 : ((p.threads.length : Int) == 0) = false := by rw [beq_eq_false_iff_ne]; omega
        have b8 : ((q.threads.length : Int) == 0) = true := by rw [beq_iff_eq]; omega
        have z8 : (q.threads.length : Int) = 0 := by omega
        clear ths qhs ept eqt V7' V8' pk qk rp rq cp cq hne
        go_wp2_with fail
        go_ret
        exact ⟨rfl, B8.out⟩
    · simp only [not_or] at hne
      obtain ⟨hp0, hq0⟩ := hne
      obtain ⟨t, ht⟩ : ∃ t, p.threads[0]? = some t := ⟨_, List.getElem?_eq_getElem (by omega)⟩
      obtain ⟨u, hu⟩ : ∃ u, q.threads[0]? = some u := ⟨_, List.getElem?_eq_getElem (by omega)⟩
      have htm := List.mem_of_getElem? ht
      have hum := List.mem_of_getElem? hu
      obtain ⟨ga, capa, ega, _, _, hrg⟩ := RowAt.elem Th.len ths.out.1 ht
      obtain ⟨gb, capb, egb, _, _, hrg2⟩ := RowAt.elem Th.len qhs.out.1 hu
      obtain ⟨rfl, -, rfl⟩ := Value.slice.inj ega
      obtain ⟨rfl, -, rfl⟩ := Value.slice.inj egb
      have rx : Hid (stsOk w8 (fun _ => True) t.bv t.body) := hid (ths.out.2 t htm)
      have ry : Hid (stsOk w8 (fun _ => True) u.bv u.body) := hid (qhs.out.2 u hum)
      have c0 : w8.cell? ⟨ga, 0, none⟩ = some t.bv := by have := hrg 0 t.bv rfl; simpa using this
      have c1 : w8.cell? ⟨gb, 0, none⟩ = some u.bv := by have := hrg2 0 u.bv rfl; simpa using this
      have lx := hid (rp.out t htm)
      have ly := hid (rq.out u hum)
      have cx := hid (cp.out t htm)
      have cy := hid (cq.out u hum)
      have z7 : decide ((p.threads.length : Int) = 0) = false := by rw [decide_eq_false_iff_not]; omega
      have z8 : decide ((q.threads.length : Int) = 0) = false := by rw [decide_eq_false_iff_not]; omega
      have b7 : ((p.threads.length : Int) == 0) = false := by rw [beq_eq_false_iff_ne]; omega
      have b8 : ((q.threads.length : Int) == 0) = false := by rw [beq_eq_false_iff_ne]; omega
      have i7 : (0 : Int) < (p.threads.length : Int) := by omega
      have i8 : (0 : Int) < (q.threads.length : Int) := by omega
      generalize p.threads.length = np at *
      generalize q.threads.length = mq at *
      clear hrg hrg2 ega egb ths qhs ept eqt V7' V8' pk qk rp rq cp cq
      go_wp2_with fail
      go_quiet (fail)
      have bw : Below w8.heap.size w8 (w8.drewN nq) := ⟨rfl, rfl, rfl, Nat.le_refl _, fun _ _ => rfl⟩
      replace rx := hid (rx.out.kept bw)
      replace ry := hid (ry.out.kept bw)
      replace B8 := hid (Below.over B8.out bw)
      generalize w8.drewN nq = W at *
      clear c0 c1 k7 k8 n47 n48 z7 z8 b7 b8 i7 i8 hp0 hq0 ht hu htm hum g1 g2 hf1 hf2 bw
      generalize t.bv = vx at *
      generalize u.bv = vy at *
      generalize t.body = X at *
      generalize u.body = Y at *
      have nX : Hid (X.length ≤ 1000000) := hid (by have := rowT_len X; have := lx.out; omega)
      have nY : Hid (Y.length ≤ 1000000) := hid (by have := rowT_len Y; have := ly.out; omega)
      go_upto_region 10 with (first
        | (at_builtin; refine wl_rows1 rfl _ _ rfl W rfl vx rfl _ X rx.out nX.out ?_; intro va wA hA; replace hA := hid hA)
        | (at_builtin; refine wl_rows2 rfl _ _ rfl W wA va rfl X hA.out vy rfl _ Y ry.out nX.out nY.out ?_; intro v9 w9 h9; replace h9 := hid h9))
      have r9 := hid (h9.out.sts (by simp; have := nX.out; have := nY.out; omega) (F := fun _ => True) (fun s hs => (List.mem_append.1 hs).elim (rx.out.2 s) (ry.out.2 s)))
      replace rx := hid (rx.out.kept h9.out.bel)
      replace ry := hid (ry.out.kept h9.out.bel)
      replace B8 := hid (Below.over B8.out h9.out.bel)
      clear hA h9
      go_upto_region 11 with (first
        | (at_builtin; refine wl_rows1 rfl _ _ rfl w9 rfl vy rfl _ Y ry.out nY.out ?_; intro vb wB hB; replace hB := hid hB)
        | (at_builtin; refine wl_rows2 rfl _ _ rfl w9 wB vb rfl Y hB.out vx rfl _ X rx.out nY.out nX.out ?_; intro v10 w10 h10; replace h10 := hid h10))
      have r10 := hid (h10.out.sts (by simp; have := nX.out; have := nY.out; omega) (F := fun _ => True) (fun s hs => (List.mem_append.1 hs).elim (ry.out.2 s) (rx.out.2 s)))
      replace rx := hid (rx.out.kept h10.out.bel)
      replace ry := hid (ry.out.kept h10.out.bel)
      replace r9 := hid (r9.out.kept h10.out.bel)
      replace B8 := hid (Below.over B8.out h10.out.bel)
      clear hB h10
      have G9 := hid (goneN (X ++ Y) v9 w10 _ r9.out (by have := rowT_app X Y; have := lx.out; have := ly.out; omega) (by rw [cnt_app]; have := cx.out; have := cy.out; omega))
      rw [cnt_app] at G9
      go_wp2_with fail
      refine G9.out.mono ?_
      rintro e w11 ⟨rfl, hb⟩
      replace rx := hid (rx.out.kept hb)
      replace ry := hid (ry.out.kept hb)
      replace r9 := hid (r9.out.kept hb)
      replace r10 := hid (r10.out.kept hb)
      replace B8 := hid (Below.over B8.out hb)
      clear hb G9
      have GX := hid (goneN X vx w11 _ rx.out (by have := lx.out; omega) (by have := cx.out; omega))
      go_wp2_with fail
      refine GX.out.mono ?_
      rintro e w12 ⟨rfl, hb⟩
      replace rx := hid (rx.out.kept hb)
      replace ry := hid (ry.out.kept hb)
      replace r9 := hid (r9.out.kept hb)
      replace r10 := hid (r10.out.kept hb)
      replace B8 := hid (Below.over B8.out hb)
      clear hb GX
      have GY := hid (goneN Y vy w12 _ ry.out (by have := ly.out; omega) (by have := cy.out; omega))
      go_wp2_with fail
      refine GY.out.mono ?_
      rintro e w13 ⟨rfl, hb⟩
      replace rx := hid (rx.out.kept hb)
      replace ry := hid (ry.out.kept hb)
      replace r9 := hid (r9.out.kept hb)
      replace r10 := hid (r10.out.kept hb)
      replace B8 := hid (Below.over B8.out hb)
      clear hb GY
      have ex : Hid (∃ nx ny : Nat, cnt X = nx ∧ cnt Y = ny ∧ nx ≤ 60 ∧ ny ≤ 60) := hid ⟨_, _, rfl, rfl, cx.out, cy.out⟩
      obtain ⟨nx, ny, e1, e2, l1, l2⟩ := ex.out
      rw [e1, e2]
      have ew : wrap64 ((nx : Int) + (ny : Int)) = ((nx + ny : Nat) : Int) := by unfold wrap64; omega
      clear ex e1 e2 cx cy
      go_wp2_with (first
        | (at_builtin; refine wl_rows1 rfl _ _ rfl w13 rfl vx rfl _ X rx.out nX.out ?_; intro vc wC hC; replace hC := hid hC)
        | (at_builtin; refine wl_rows2 rfl _ _ rfl w13 wC vc rfl X hC.out vy rfl _ Y ry.out nX.out nY.out ?_; intro v16 w16 h16; replace h16 := hid h16))
      have r16 := hid (h16.out.sts (by simp; have := nX.out; have := nY.out; omega) (F := fun _ => True) (fun s hs => (List.mem_append.1 hs).elim (rx.out.2 s) (ry.out.2 s)))
      replace rx := hid (rx.out.kept h16.out.bel)
      replace ry := hid (ry.out.kept h16.out.bel)
      replace r9 := hid (r9.out.kept h16.out.bel)
      replace r10 := hid (r10.out.kept h16.out.bel)
      replace B8 := hid (Below.over B8.out h16.out.bel)
      clear hC h16
      have C1 := hid (stmts_any (X ++ Y) (X ++ Y) v9 v16 w16 _ _ r9.out r16.out)
      rw [rows_bare (X ++ Y) (X ++ Y) rfl] at C1
      refine C1.out.mono ?_
      rintro e w17 ⟨rfl, hb⟩
      replace rx := hid (rx.out.kept hb)
      replace ry := hid (ry.out.kept hb)
      replace r9 := hid (r9.out.kept hb)
      replace r10 := hid (r10.out.kept hb)
      replace B8 := hid (Below.over B8.out hb)
      clear hb C1 r16
      have C2 := hid (stmts_any X Y vx vy w17 _ _ rx.out ry.out)
      have tu := hid (rows_turned X Y rx.out ry.out)
      generalize eqL St.same X Y = c at *
      go_wp2_with fail
      refine C2.out.mono ?_
      rintro e w18 ⟨rfl, hb⟩
      replace r9 := hid (r9.out.kept hb)
      replace r10 := hid (r10.out.kept hb)
      replace B8 := hid (Below.over B8.out hb)
      clear hb C2 rx ry
      cases c with
      | true =>
        have C3 := hid (stmts_any (X ++ Y) (Y ++ X) v9 v10 w18 _ _ r9.out r10.out)
        rw [tu.out rfl] at C3
        go_wp2_with fail
        refine C3.out.mono ?_
        rintro e w19 ⟨rfl, hb⟩
        replace B8 := hid (Below.over B8.out hb)
        clear hb C3 r9 r10
        go_wp2_with fail
        refine (exprs12 w19).mono ?_
        rintro e w20 ⟨rfl, hb⟩
        replace B8 := hid (Below.over B8.out hb)
        clear hb
        go_wp2_with fail
        go_ret
        exact ⟨rfl, B8.out⟩
      | false =>
        clear r9 r10 tu
        go_wp2_with fail
        refine (exprs12 w18).mono ?_
        rintro e w20 ⟨rfl, hb⟩
        replace B8 := hid (Below.over B8.out hb)
        clear hb
        go_wp2_with fail
        go_ret
        exact ⟨rfl, B8.out⟩
  · have g3 : N.length ≤ 400 → ¬ M.length ≤ 400 := fun h k => hf ⟨h, k⟩
    by_cases hf1 : N.length ≤ 400
    · have g1 : decide ((N.length : Int) > 400) = false := by simp; omega
      have g2 : decide ((M.length : Int) > 400) = true := by have := g3 hf1; simp; omega
      go_wp2_with fail
      go_ret
      exact ⟨rfl, hba.out⟩
    · have g1 : decide ((N.length : Int) > 400) = true := by simp; omega
      go_wp2_with fail
      go_ret
      exact ⟨rfl, hba.out⟩
end Go.Proofs.Ytfdfeiempeciiaa

/- The contract of Calls: the names of the functions that a row calls. -/
namespace Go.Proofs.Ytfdfeiempeciiaa
open Go.ChangeShapes Go.WideShapes Go.ChangeAt Go.RowKit Go.Shelf
set_option linter.unusedVariables false
attribute [local go_sem] Oper.semAt_some

def callsOf (xs : List (Int × St)) : List ByteArray := xs.flatMap (fun x => if x.2.op == 11 then [x.2.nm] else [])
theorem callsOf_step (xs : List (Int × St)) (k : Nat) (x : Int × St) (h : xs[k]? = some x) : callsOf (xs.take (k + 1)) = callsOf (xs.take k) ++ (if x.2.op == 11 then [x.2.nm] else []) := take_flat _ xs k x h
theorem callsOf_len (xs : List (Int × St)) : (callsOf xs).length ≤ xs.length := by
  induction xs with
  | nil => simp [callsOf]
  | cons a xs ih =>
    have h : (if a.2.op == 11 then [a.2.nm] else []).length ≤ 1 := by split <;> simp
    simp only [callsOf, List.flatMap_cons, List.length_append, List.length_cons] at ih ⊢
    omega

/-- append of a row, inside a fence. -/
theorem wli_append_row {F : Fence} {n0 : Nat} {w : World} {ops : Array Oper} {rest : List Oper} {o : Oper} {a : Act} {Q : Exit → Act → World → Prop} (hgd : o.guard = none) (s x : Operand) (t : TypeId)
    (ho : o.op = .call { callee := .builtin .append, args := #[s, x], argTypes := #[t, t] })
    (base : Nat) (e : TypeId) (z : Value) (size bytes : Nat) (ht : Try.prog.underlying t = some (.slice e)) (hinf : (Try.prog.info? e).map (fun i => (i.zero, i.size, i.bytes)) = some (some z, size, bytes)) (hzs : z.cells.size = size) (hsz : 0 < size)
    (v : Value) (hs : a.eval s = v) (n : Nat) (xs : List Value) (hown : w.ownsRow base e size v n xs) (u : Value) (hx : a.eval x = u) (G : Nat → Prop) (m : Nat) (news : List Value) (hu : RowAt w G size u m news) (h1 : ∀ x ∈ news, x.oneCell' = true)
    (h63 : n + m ≤ 2000000) (hbytes : bytes ≤ 1000) (hbase : base ≤ w.heap.size)
    (h : ∀ v' w', w'.ownsRow base e size v' (n + m) (xs ++ news) → w.grownBy w' v.ownBlock → (v'.ownBlock = v.ownBlock ∨ v'.ownBlock = some w.heap.size) → wpListIn F n0 Try.prog ops Q rest (a.put o.dst v') w') : wpListIn F n0 Try.prog ops Q (o :: rest) a w := by
  refine wpListIn_plain hgd fun K hK' => ?_
  obtain ⟨i, hi, z0, z1, z2⟩ := info_parts hinf
  obtain ⟨v', w', hr, h2, h3, h4⟩ := run_append_row w t o.type base e i z size bytes ht hi z0 z1 z2 hzs hsz v n xs hown G u m news hu h1 h63 hbytes hbase
  unfold Oper.wpIn
  refine ⟨?_, ?_⟩
  · simp [Oper.about, ho, resolve, Target.leads, Sem.run_pure]
  · rw [Oper.semAt_plain F _ _ (by rw [ho]; intro c hc'; cases hc')]
    simp [execOp, ho, resolve, invoke, builtin, hs, hx, hr, Result.andThen]
    exact hK' _ _ (h v' w' h2 h3 h4)
end Go.Proofs.Ytfdfeiempeciiaa

/- A range over a function that touches nothing itself. -/
namespace Go.Proofs.Ytfdfeiempeciiaa
open Go.ChangeShapes Go.WideShapes Go.ChangeAt Go.RowKit
set_option linter.unusedVariables false
attribute [local go_sem] Oper.semAt_some

/-- A function that hands over N things, each of which fits, or is stopped, and touches nothing itself. -/
def SeqW (F : Fence) (n g : Nat) (lb : Array Value) (N : Nat) (T : Nat → Prop) (Fit : Nat → Array Value → World → Prop) (w : World) : Prop :=
  ∀ (l : Nat) (J : Nat → World → Prop) (Jx : World → Prop) (W : World), Below w.heap.size w W → w.heap.size ≤ l → l < W.heap.size →
    (∀ m, Rounds F m l N T Fit J Jx) → J 0 W →
    CallsIn F n Try.prog g (#[.func (.yield l) #[] #[]] ++ lb) W fun e W' => (∃ v, e = .returned v) ∧ (J N W' ∨ Jx W')

theorem wpIn_range3 {F : Fence} {n : Nat} {g : Operand} {ps : Array Tmp} {assign body : Code} {Q : Exit → Act → World → Prop} {a : Act} {w : World}
    (hro : F.round = none) (hd : F.depth = none) {gf : Nat} {lb : Array Value} (hg : a.eval g = .func (.func gf) #[] lb) (hFg : F.fn gf) (eg : ∀ args w, (callFunc gf args).run Try.prog w = .ok (.enter gf args) w)
    {N : Nat} {T : Nat → Prop} {Fit : Nat → Array Value → World → Prop} (hseq : ∀ n, SeqW F n gf lb N T Fit w) (hT : ¬ T w.heap.size ∧ ¬ T (w.heap.size + 1)) (hps : ∀ k args W, Fit k args W → args.size = ps.size)
    (I : Nat → World → Prop) (Ix : Code → World → Prop) (hI : ∀ k W W', w.heap.size + 2 ≤ W.heap.size → I k W → Touch (fun b => b = w.heap.size ∨ b = w.heap.size + 1) W W' → I k W') (hIx : ∀ k W W', w.heap.size + 2 ≤ W.heap.size → Ix k W → Touch (fun b => b = w.heap.size ∨ b = w.heap.size + 1) W W' → Ix k W') (h0 : ∀ W, Below w.heap.size w W → W.heap.size = w.heap.size + 2 → I 0 W) (A : Nat → Act → World → Prop)
    (hA : ∀ k a' W W', A k a' W → (∀ b, b ≠ w.heap.size + 1 → W'.heap[b]? = W.heap[b]?) → W'.heap.size = W.heap.size → A k a' W')
    (hassign : ∀ (l k : Nat) (args : Array Value) (W : World) (K : Act → World → Prop), Fit k args W → w.heap.size + 2 ≤ W.heap.size → (∀ a' W', Below W.heap.size W W' → A k a' W' → K a' W') →
      assign.wpIn (F.inRound l) n Try.prog (Exit.then K (fun _ _ _ => False)) { tmps := (ps.zip args).foldl (fun t (p, v) => t.setIfInBounds p v) a.tmps, defers := [] } W)
    (hbody : ∀ (l k : Nat) (a' : Act) (W : World), I k W → k < N → A k a' W → w.heap.size + 2 ≤ W.heap.size → body.wpIn (F.inRound l) n Try.prog (endPost T I Ix k W) a' W)
    (hdone : ∀ (D : Nat) (W : World), I N W → D = w.heap.size → W.heap[D]? = some (.deferred (some [])) → Q .normal { a with defers := { target := .collected D, args := #[] } :: a.defers } W)
    (hstop : ∀ (D : Nat) (c : Code) (W : World), Ix c W → D = w.heap.size → W.heap[D]? = some (.deferred (some [])) → c.wpIn F n Try.prog Q { a with defers := { target := .collected D, args := #[] } :: a.defers } W) :
    (Code.rangeFunc g ps assign body).wpIn F n Try.prog Q a w := by
  refine wpIn_rangeFunc fun fn hfn => ?_
  rw [hro]
  have hdd : F.depth.isSome = true → 1 ≤ n := fun h => by rw [hd] at h; cases h
  generalize hR : (fun (st : LoopState) (pe : Option Code) => ({ state := st, pending := pe, fn, tmps := a.tmps, params := ps, assign, body, defers := w.heap.size } : Loop)) = R
  generalize hW : (w.alloc (.deferred (some []))).alloc (.loop (R .ready none)) = W1
  have b1 : Below w.heap.size w W1 := by rw [← hW]; exact below_two _ _ _
  have s1 : W1.heap.size = w.heap.size + 2 := by rw [← hW]; simp
  have q1 : W1.heap[w.heap.size + 1]? = some (.loop (R .ready none)) := by
    rw [← hW]
    have := World.alloc_heap_new (w.alloc (.deferred (some []))) (.loop (R .ready none))
    rwa [World.size_alloc] at this
  have q2 : W1.heap[w.heap.size]? = some (.deferred (some [])) := by
    rw [← hW, Below.heap_alloc _ _ _ (by simp)]
    exact World.alloc_heap_new w _
  refine ⟨w.heap.size + 1, [{ target := .collected w.heap.size, args := #[] }], W1, { target := .fn (.func gf) lb, args := #[.func (.yield (w.heap.size + 1)) #[] #[]] }, W1, gf, #[.func (.yield (w.heap.size + 1)) #[] #[]] ++ lb, W1, ?_, ?_, ?_, ?_, hdd, ?_⟩
  · rw [← hW, ← hR]
    exact run_enterLoop_outer _ _ _ _ _
  · simp only [resolve, hg]
    simp [go_sem]
  · intro f' hf'
    simp [Target.leads] at hf'
    subst hf'
    exact hFg
  · simp [invoke, go_sem, eg]
  · refine (hseq (n - 1) (w.heap.size + 1) (fun k W => I k W ∧ w.heap.size + 2 ≤ W.heap.size ∧ W.heap[w.heap.size + 1]? = some (.loop (R .ready none)) ∧ W.heap[w.heap.size]? = some (.deferred (some [])))
      (fun W => ∃ c, Ix c W ∧ w.heap.size + 2 ≤ W.heap.size ∧ W.heap[w.heap.size + 1]? = some (.loop (R .done (some c))) ∧ W.heap[w.heap.size]? = some (.deferred (some []))) W1 b1 (by omega) (by omega) ?_ ⟨h0 _ b1 s1, by omega, q1, q2⟩).mono ?_
    · rintro m k args W ⟨x1, x2, x3, x4⟩ hk hf
      have hy := run_yield (P := Try.prog) (args := args) x3 (by rw [← hR]; exact hps k args W hf)
      rw [← hR] at hy
      refine ⟨fn, _, assign, body, hy, rounds_any hd (roundIn_of_wpIn hfn (hassign (w.heap.size + 1) k args W _ hf x2 fun a' W' hb hA' => ?_))⟩
      have z1 := hb.size
      have y1 : W'.heap[w.heap.size + 1]? = some (.loop (R .ready none)) := (hb.block _ (by omega)).trans x3
      have y2 : W'.heap[w.heap.size]? = some (.deferred (some [])) := (hb.block _ (by omega)).trans x4
      have r1 := run_beginRound (P := Try.prog) y1 (by rw [← hR])
      have e1 : ({ R .ready none with state := .busy } : Loop) = R .busy none := by rw [← hR]
      rw [e1] at r1
      refine ⟨_, r1, ?_⟩
      generalize hW2 : W'.putObj (w.heap.size + 1) (.loop (R .busy none)) = W2
      have z2 : W2.heap.size = W'.heap.size := by rw [← hW2]; simp [World.putObj]
      have u1 : W2.heap[w.heap.size + 1]? = some (.loop (R .busy none)) := by rw [← hW2]; exact World.putObj_heap_same (by omega)
      have u2 : W2.heap[w.heap.size]? = some (.deferred (some [])) := by rw [← hW2]; exact (World.putObj_heap_other (by omega)).trans y2
      have t12 : Touch (fun b => T b ∨ b = w.heap.size + 1) W W2 := (Touch.of_below hb).trans (by rw [← hW2]; exact Touch.putObj _ _ _ (.inr rfl))
      have b12 : Touch (fun b => b = w.heap.size ∨ b = w.heap.size + 1) W W2 := (Touch.of_below hb).trans (by rw [← hW2]; exact Touch.putObj _ _ _ (.inr rfl))
      have a2 : A k a' W2 := hA k a' W' W2 hA' (fun b hb' => by rw [← hW2]; exact World.putObj_heap_other hb') z2
      refine wpIn_mono (hbody (w.heap.size + 1) k a' W2 (hI _ _ _ x2 x1 b12) hk a2 (by omega)) ?_
      have fin : ∀ (jump : Option Code) (W3 : World), Touch T W2 W3 → ∃ W4, (Instr.endRound (w.heap.size + 1) jump).run Try.prog W3 = .ok (.bool jump.isNone) W4 ∧ (w.heap.size + 2 ≤ W3.heap.size ∧ Touch (fun b => b = w.heap.size ∨ b = w.heap.size + 1) W3 W4) ∧ w.heap.size + 2 ≤ W4.heap.size ∧
          W4.heap[w.heap.size + 1]? = some (.loop (R (if jump.isNone then .ready else .done) jump)) ∧ W4.heap[w.heap.size]? = some (.deferred (some [])) ∧ Touch (fun b => T b ∨ b = w.heap.size + 1) W W4 := fun jump W3 t3 => by
        have v1 : W3.heap[w.heap.size + 1]? = some (.loop (R .busy none)) := (t3.block _ (by omega) hT.2).trans u1
        have v2 : W3.heap[w.heap.size]? = some (.deferred (some [])) := (t3.block _ (by omega) hT.1).trans u2
        have r2 := run_endRound (P := Try.prog) jump v1
        have e2 : ({ R .busy none with state := if jump.isNone then .ready else .done, pending := jump } : Loop) = R (if jump.isNone then .ready else .done) jump := by rw [← hR]
        rw [e2] at r2
        have z3 := t3.size
        exact ⟨_, r2, ⟨by omega, Touch.putObj _ _ _ (.inr rfl)⟩, by simp [World.putObj]; omega, World.putObj_heap_same (by omega), (World.putObj_heap_other (by omega)).trans v2,
          t12.trans ((t3.mono (fun _ _ h => .inl h)).trans (Touch.putObj _ _ _ (.inr rfl)))⟩
      rintro e a3 W3 hp
      cases e with
      | normal =>
        obtain ⟨W4, f1, f2, f3, f4, f5, f6⟩ := fin none W3 hp.1
        exact ⟨_, W4, f1, .inl ⟨rfl, ⟨hI _ _ _ f2.1 hp.2 f2.2, f3, f4, f5⟩, f6⟩⟩
      | ret =>
        obtain ⟨W4, f1, f2, f3, f4, f5, f6⟩ := fin (some .ret) W3 hp.1
        exact ⟨_, W4, f1, .inr ⟨rfl, ⟨.ret, hIx _ _ _ f2.1 hp.2 f2.2, f3, f4, f5⟩, f6⟩⟩
      | exit id =>
        obtain ⟨W4, f1, f2, f3, f4, f5, f6⟩ := fin (some (.exit id)) W3 hp.1
        exact ⟨_, W4, f1, .inr ⟨rfl, ⟨.exit id, hIx _ _ _ f2.1 hp.2 f2.2, f3, f4, f5⟩, f6⟩⟩
      | goto t =>
        obtain ⟨W4, f1, f2, f3, f4, f5, f6⟩ := fin (some (.goto t)) W3 hp.1
        exact ⟨_, W4, f1, .inr ⟨rfl, ⟨.goto t, hIx _ _ _ f2.1 hp.2 f2.2, f3, f4, f5⟩, f6⟩⟩
      | panic ch => exact hp.elim
      | outgrown => exact hp.elim
    · rintro e W ⟨⟨v, rfl⟩, ⟨x1, x2, x3, x4⟩ | ⟨c, x1, x2, x3, x4⟩⟩
      · have := run_endLoop (P := Try.prog) x3 (by rw [← hR]; simp)
        have e : (R .ready none).pending = none := by rw [← hR]
        rw [e] at this
        exact ⟨none, _, this, hdone w.heap.size _ (hI _ _ _ x2 x1 (Touch.putObj W (w.heap.size + 1) _ (.inr rfl))) rfl ((World.putObj_heap_other (by omega)).trans x4)⟩
      · have := run_endLoop (P := Try.prog) x3 (by rw [← hR]; simp)
        have e : (R .done (some c)).pending = some c := by rw [← hR]
        rw [e] at this
        exact ⟨some c, _, this, hstop w.heap.size c _ (hIx _ _ _ x2 x1 (Touch.putObj W (w.heap.size + 1) _ (.inr rfl))) rfl ((World.putObj_heap_other (by omega)).trans x4)⟩
set_option maxRecDepth 100000 in
set_option maxHeartbeats 1000000 in
/-- The function that each hands back. -/
theorem each1_seqW (F : Fence) (hd : F.depth = none) (h50 : F.fn 50) (h51 : F.fn 51) (hro : F.round = none) (G : Nat → Prop) (T : Nat → Prop) (hG : ∀ b, G b → ¬ T b) (l : List St) (v : Value) (Bk : Nat) (w : World) (hB : w.cell? ⟨Bk, 0, none⟩ = some v) (hl : stsOk w G v l) (n : Nat) :
    SeqW F n 50 #[.pointer (some ⟨Bk, 0, none⟩)] (flatL 0 l).length T (FitAt (flatL 0 l)) w := by
  intro lp J Jx W hW hl1 hl2 hY hJ0
  have hdd : ∀ k : Nat, (F.depth.isSome = true → 1 ≤ k) := fun k h => by rw [hd] at h; cases h
  have C := walk_any F hd h51 hro (fun b => G b ∧ b < w.heap.size) T lp (fun b hb h => h.elim (hG b hb.1) (fun e => by have := hb.2; omega)) (flatL 0 l) J Jx hY l (n - 1) 0 0 v W ((hl.mono (fun g h1 h2 => ⟨h1, h2⟩)).kept hW) hJ0 (From.all _)
  have hc : W.cell? ⟨Bk, 0, none⟩ = some v := (hW.cell (p := ⟨Bk, 0, none⟩) (World.block_lt_of_cell? w _ hB)).trans hB
  obtain ⟨pv, cv, rfl⟩ := hl.1.form
  clear hB hl hY hJ0 hW
  refine callsIn_of_wp Try.func50 rfl h50 ?_ hro
  simp only [Try.ntmps50, List.size_toArray, List.length_cons, List.length_nil, Nat.reduceAdd, Nat.reduceSub, Array.replicate_succ, Array.replicate_zero, List.push_toArray, List.append_toArray, List.nil_append, List.cons_append]
  gi_wp2_with ((try refine ⟨hdd _, ?_⟩); gi_at_call 51; refine C.mono ?_; clear C; rintro e W1 ⟨-, ⟨rfl, h1⟩ | ⟨rfl, h1⟩⟩)
  · go_end0
    exact ⟨⟨_, rfl⟩, .inl (by simpa using h1)⟩
  · go_end0
    exact ⟨⟨_, rfl⟩, .inr h1⟩

end Go.Proofs.Ytfdfeiempeciiaa

/- The contract of Calls: the names of the functions that a row calls. -/
namespace Go.Proofs.Ytfdfeiempeciiaa
open Go.ChangeShapes Go.WideShapes Go.ChangeAt Go.RowKit Go.Shelf
set_option linter.unusedVariables false
attribute [local go_sem] Oper.semAt_some

/-- While Calls goes over a row: the box of the names, and the names so far. -/
structure NamesAt (X : World) (b base : Nat) (L : List ByteArray) (v : Value) : Prop where
  box : VarAt X b [v] 33
  own : X.ownsRow base 9 1 v L.length (L.flatMap strC)
theorem NamesAt.touch {X X' : World} {b base : Nat} {L : List ByteArray} {v : Value} {T : Nat → Prop} (h : NamesAt X b base L v) (t : Touch T X X') (h1 : ¬ T b) (h2 : ∀ g, base ≤ g → ¬ T g) : NamesAt X' b base L v :=
  ⟨h.box.touch t h1, own_keep h.own (fun g hg hl => t.block g hl (h2 g hg))⟩

theorem namesStep {V X W1 : World} {B : Nat} {old vnew : Value} {L : List ByteArray} {s : ByteArray} (hT : Touch (fun b => b = B ∨ B + 2 ≤ b) V X) (t1 : Touch (fun b => B + 4 ≤ b) X W1) (bx : VarAt W1 B [old] 33)
    (o1 : W1.ownsRow (B + 4) 9 1 vnew (L.length + 1) (L.flatMap strC ++ [.string s])) : Touch (fun b => b = B ∨ B + 4 ≤ b) X (W1.setCell ⟨B, 0, none⟩ vnew) ∧ Touch (fun b => b = B ∨ B + 2 ≤ b) V (W1.setCell ⟨B, 0, none⟩ vnew) ∧ ∃ vn, NamesAt (W1.setCell ⟨B, 0, none⟩ vnew) B (B + 4) (L ++ [s]) vn := by
  have t2 : Touch (fun b => b = B ∨ B + 4 ≤ b) X (W1.setCell ⟨B, 0, none⟩ vnew) := by
    refine (t1.mono (fun b _ h => .inr h)).trans ?_
    exact Touch.setCell W1 ⟨B, 0, none⟩ vnew (.inl rfl)
  refine ⟨t2, hT.trans (t2.mono (fun b _ h => by omega)), vnew, bx.set 0 vnew, ?_⟩
  have := ownsRow_setCell_below o1 (a := ⟨B, 0, none⟩) (by simp) vnew
  simpa [strC] using this
set_option maxRecDepth 100000 in
set_option maxHeartbeats 1000000 in
theorem calls_any (l : List St) (v : Value) (w : World) (G : Nat → Prop) (hl : stsOk w G v l) (hn : (flatL 0 l).length ≤ 1000000) :
    Calls Try.prog 19 #[v] w fun e w' => ∃ u, e = .returned u ∧ Txts w w' u (callsOf (flatL 0 l)) := by
  refine (callsIn_wide (n := 3)).1 ?_
  have C := fun W => each_any v (by obtain ⟨p, c, rfl⟩ := hl.1.form; exact ⟨_, _, _, rfl⟩) W
  have bV : Below w.heap.size w ((w.alloc (.cells #[.slice none 0 0] 33)).alloc (.cells #[v] 35)) := below_two _ _ _
  have hS := fun n => each1_seqW Fence.wide rfl trivial trivial rfl (fun b => G b ∧ b < w.heap.size) (fun b => b = w.heap.size ∨ w.heap.size + 4 ≤ b) (fun b hb h => by omega) l v (w.heap.size + 1) ((w.alloc (.cells #[.slice none 0 0] 33)).alloc (.cells #[v] 35)) (by
    have := (Boxed.new (w.alloc (.cells #[.slice none 0 0] 33)) 35 v).cell
    rw [World.size_alloc] at this
    exact this) ((hl.mono (fun g a b => ⟨a, b⟩)).kept bV) n
  have v3 : VarAt ((w.alloc (.cells #[.slice none 0 0] 33)).alloc (.cells #[v] 35)) w.heap.size [.slice none 0 0] 33 := (VarAt.new w [.slice none 0 0] 33).kept ((Below.refl _ _).alloc (Nat.le_refl _) _)
  have sV : ((w.alloc (.cells #[.slice none 0 0] 33)).alloc (.cells #[v] 35)).heap.size = w.heap.size + 2 := by simp only [World.size_alloc]
  have okl : ∀ x ∈ flatL 0 l, x.2.ok w G := flatL_ok 0 hl.2
  replace hS := hid hS
  obtain ⟨pv, cv, rfl⟩ := hl.1.form
  clear hl
  refine callsIn_of_wp_marks Try.func19 rfl trivial ?_ rfl
  simp only [Try.ntmps19, List.size_toArray, List.length_cons, List.length_nil, Nat.reduceAdd, Nat.reduceSub, Array.replicate_succ, Array.replicate_zero, List.push_toArray, List.append_toArray, List.nil_append, List.cons_append]
  gi_wp2_with (refine ⟨trivial, ?_⟩; gi_at_call 41; refine (callsIn_wide.2 (C _)).mono ?_; rintro e w' ⟨rfl, rfl⟩)
  generalize hV : (w.alloc (.cells #[.slice none 0 0] 33)).alloc (.cells #[.slice pv l.length cv] 35) = V at *
  clear C hV
  refine wpIn_range3 rfl rfl (gf := 50) (lb := #[.pointer (some ⟨w.heap.size + 1, 0, none⟩)]) rfl trivial (enters_of Try.func50 (by kernel_rfl) rfl) hS.out ⟨by omega, by omega⟩ (fun k args W h => by obtain ⟨x, _, rfl⟩ := h; rfl)
    (fun k X => Touch (fun b => b = w.heap.size ∨ w.heap.size + 2 ≤ b) V X ∧ ∃ vn, NamesAt X w.heap.size (w.heap.size + 4) (callsOf ((flatL 0 l).take k)) vn) (fun _ _ => False) ?hI (fun _ _ _ _ h _ => h) ?h0
    (fun k a' X => ∃ (x : Int × St) (b5 : Nat), (flatL 0 l)[k]? = some x ∧ w.heap.size + 4 ≤ b5 ∧ VarAt X b5 x.2.cells 52 ∧ a' = { tmps := #[.slice pv l.length cv, undef, .slice none 0 0, .pointer (some ⟨w.heap.size, 0, none⟩), undef, .pointer (some ⟨b5, 0, none⟩), .slice pv l.length cv, .func (.func 50) #[] #[.pointer (some ⟨w.heap.size + 1, 0, none⟩)], .int .i64 x.1, .agg x.2.cells.toArray, undef, undef, undef, undef, undef, undef, undef, undef, undef], defers := [] }) ?hA ?assign ?body ?done ?stop
  case hI =>
    rintro k X X' hz ⟨h1, vn, h2⟩ ht
    exact ⟨h1.trans (ht.mono (fun b _ h => by omega)), vn, h2.touch ht (by omega) (fun g hg => by omega)⟩
  case h0 =>
    intro X hb hz
    exact ⟨Touch.of_below hb, .slice none 0 0, v3.kept hb, ⟨by simp [callsOf], .inl ⟨rfl, by simp [callsOf]⟩⟩⟩
  case hA =>
    rintro k a' X X' ⟨x, b5, e1, e2, e3, e4⟩ hb hs
    exact ⟨x, b5, e1, e2, (hb b5 (by omega)).trans e3, e4⟩
  case assign =>
    rintro lp2 k args X K ⟨x, hx, rfl⟩ hsz hK
    have one := hid (okl x (List.mem_of_getElem? hx)).hd.one
    clear hS okl
    unfold St.val
    gi_wp2_with (refine wli_store_new 52 _ _ rfl rfl X 52 _ rfl X.heap.size rfl rfl x.2.cells rfl x.2.agg rfl one.out ?_)
    exact hK _ _ ((Below.refl _ _).alloc (Nat.le_refl _) _) ⟨x, X.heap.size, hx, by omega, VarAt.new X x.2.cells 52, rfl⟩
  case body =>
    rintro lp2 k a' X ⟨hT, vn, hN⟩ hk ⟨x, b5, hx, hb5, hV5, rfl⟩ hsz
    have cop := hV5.cell 0 (v := .int .i64 x.2.op) rfl
    have cnm := hV5.cell 1 (v := .string x.2.nm) rfl
    have st := hid (callsOf_step (flatL 0 l) k x hx)
    have ln := hid (callsOf_len ((flatL 0 l).take k))
    clear hS okl
    by_cases hop : (x.2.op == 11) = true
    · obtain ⟨pn, cn, rfl⟩ := own_slice hN.own
      have c3 := hN.box.cell 0 (v := .slice pn (callsOf ((flatL 0 l).take k)).length cn) rfl
      rw [if_pos hop] at st
      generalize callsOf ((flatL 0 l).take k) = L at *
      have nL : L.length + 1 ≤ 2000000 := by have := ln.out; simp at this; omega
      have hown : Hid ((X.alloc (.cells #[.string x.2.nm] 9)).ownsRow (w.heap.size + 4) 9 1 (.slice pn L.length cn) L.length (L.flatMap strC)) := hid (own_keep hN.own (fun g hg hl => Below.heap_alloc _ _ _ (by omega)))
      have hrow : Hid (RowAt (X.alloc (.cells #[.string x.2.nm] 9)) (fun _ => True) 1 (.slice (some ⟨X.heap.size, 0, none⟩) 1 1) 1 [.string x.2.nm]) := hid (RowAt.made X [.string x.2.nm] 9 (fun _ => True) trivial 1 rfl)
      have hbox := hid hN.box
      have hz : Hid (w.heap.size + 4 ≤ (X.alloc (.cells #[.string x.2.nm] 9)).heap.size) := hid (by simp only [World.size_alloc]; omega)
      replace hT := hid hT
      replace hV5 := hid hV5
      have hX : Hid (w.heap.size + 4 ≤ X.heap.size) := hid (by omega)
      clear hN ln v3 bV hx
      gi_wp2_with (refine wli_append_row rfl _ _ 33 rfl (w.heap.size + 4) 9 (.string { data := #[] }) 1 16 Try.underlying33 info9z rfl (by decide) (.slice pn L.length cn) rfl L.length (L.flatMap strC) hown.out (.slice (some ⟨X.heap.size, 0, none⟩) 1 1) rfl (fun _ => True) 1 [.string x.2.nm] hrow.out (by simp [Value.oneCell']) nL (by decide) hz.out ?_
                   intro v' W1 o1 gr hh
                   obtain ⟨p', c', rfl⟩ := own_slice o1
                   have t1 : Touch (fun b => w.heap.size + 4 ≤ b) X W1 := (Touch.of_below ((Below.refl _ _).alloc (Nat.le_refl _) _)).trans (Touch.of_grown gr (fun g hg => (own_lt hown.out hg).1))
                   have bx1 := hbox.out.touch t1 (by omega)
                   have c3' := bx1.cell 0 (v := .slice pn L.length cn) rfl
                   have d3' := bx1.frozen 0
                   replace o1 := hid o1
                   replace t1 := hid t1
                   replace bx1 := hid bx1
                   clear gr hh c3)
      have fin := namesStep (s := x.2.nm) hT.out t1.out bx1.out o1.out
      rw [← st.out] at fin
      exact fin
    · have hof : (x.2.op == 11) = false := by simpa using hop
      rw [if_neg hop, List.append_nil] at st
      replace hN := hid hN
      replace hT := hid hT
      replace hV5 := hid hV5
      clear ln v3 bV hx
      gi_wp2_with fail
      have fin : ∃ vn, NamesAt X w.heap.size (w.heap.size + 4) (callsOf ((flatL 0 l).take (k + 1))) vn := by
        rw [st.out]
        exact ⟨vn, hN.out⟩
      exact ⟨Touch.refl _ _, hT.out, fin⟩
  case done =>
    rintro D X ⟨h1, vn, hN⟩ hD hK
    rw [List.take_length] at hN
    obtain ⟨pn, cn, rfl⟩ := own_slice hN.own
    have c3 := hN.box.cell 0 (v := .slice pn (callsOf (flatL 0 l)).length cn) rfl
    have own := hid hN.own
    have hb : Below w.heap.size w (X.putObj D (.deferred none)) := (bV.trans (h1.below (fun i hi => ⟨by omega, by omega⟩))).trans (below_putObj X D (.deferred none) (by omega))
    have ow2 : Hid ((X.putObj D (.deferred none)).ownsRow w.heap.size 9 1 (.slice pn (callsOf (flatL 0 l)).length cn) (callsOf (flatL 0 l)).length ((callsOf (flatL 0 l)).flatMap strC)) := hid (own_low (own_keep hN.own (fun g hg hl => World.putObj_heap_other (by omega))) (by omega))
    replace hb := hid hb
    clear hS okl hN v3 bV h1 own
    generalize hL : callsOf (flatL 0 l) = L at *
    replace hL := hid hL
    gi_wp2_with fail
    refine ⟨by simp, .inl ⟨_, _, rfl, run_takeDeferred hK, ?_⟩⟩
    rw [hL.out]
    refine ⟨.slice pn L.length cn, ?_, _, rfl, ow2.out, hb.out⟩
    exact results_tmp (fn := Try.f19) (t := 2) rfl _ _ _
  case stop =>
    rintro D c X h
    exact h.elim
end Go.Proofs.Ytfdfeiempeciiaa

/- For TreeAll: a row of rows that grows; how many statements all rows have. -/
namespace Go.Proofs.Ytfdfeiempeciiaa
open Go.ChangeShapes Go.WideShapes Go.ChangeAt Go.RowKit
set_option linter.unusedVariables false

theorem info35z : (Try.prog.info? 35).map (fun i => (i.zero, i.size, i.bytes)) = some (some (.slice none 0 0), 1, 24) := by kernel_rfl
/-- A row of rows of the call's own. -/
structure RowsV (W w' : World) (v : Value) (L : List Value) : Prop where
  own : w'.ownsRow W.heap.size 35 1 v L.length L
  bel : Below W.heap.size W w'
theorem RowsV.start (W : World) : RowsV W W (.slice none 0 0) [] := ⟨⟨by simp, .inl ⟨rfl, rfl⟩⟩, Below.refl _ _⟩
theorem RowsV.kept {W w w' : World} {v : Value} {L : List Value} (h : RowsV W w v L) (b : Below w.heap.size w w') : RowsV W w' v L := ⟨own_keep h.own (fun g _ hl => b.block g hl), Below.over h.bel b⟩
theorem RowsV.form {W w : World} {v : Value} {L : List Value} (h : RowsV W w v L) : ∃ p c, v = .slice p L.length c := own_slice h.own
theorem RowsV.form3 {W w : World} {v : Value} {L : List Value} (h : RowsV W w v L) : ∃ p n c, v = .slice p n c := by
  obtain ⟨p, c, e⟩ := h.form
  exact ⟨p, _, c, e⟩
/-- All rows of statements of a program. -/
def rowsOf (p : Pg) : List (Value × List St) := p.funs.map (fun f => (f.bv, f.body)) ++ p.threads.map (fun t => (t.bv, t.body))
def flats (R : List (Value × List St)) : List (Int × St) := R.flatMap (fun r => flatL 0 r.2)
theorem flats_rows (p : Pg) : flats (rowsOf p) = funsL p.funs ++ thsL p.threads := by
  simp [flats, rowsOf, funsL, thsL, List.flatMap_append, List.flatMap_map]
theorem rows_vals (p : Pg) : (rowsOf p).map (·.1) = p.funs.map Fn.bv ++ p.threads.map Th.bv := by
  simp [rowsOf, Function.comp_def]
theorem flats_step (R : List (Value × List St)) (k : Nat) (r : Value × List St) (h : R[k]? = some r) : flats (R.take (k + 1)) = flats (R.take k) ++ flatL 0 r.2 := by
  rw [List.take_add_one, h]
  simp [flats]
theorem cntF_len (xs : List (Int × St)) : ∀ n : Int, 0 ≤ n → n + xs.length ≤ 1000000 → cntF n xs = n + xs.length := by
  induction xs with
  | nil => intro n _ _; simp [cntF]
  | cons a xs ih =>
    intro n h0 h1
    have e : cntF n (a :: xs) = cntF (wrap64 (n + 1)) xs := rfl
    simp only [List.length_cons] at h1
    rw [e, show wrap64 (n + 1) = n + 1 by unfold wrap64; omega, ih (n + 1) (by omega) (by omega)]
    simp only [List.length_cons]
    omega
theorem sum_len (p : Pg) : (flats (rowsOf p)).length = (p.funs.map (fun f => cnt f.body)).sum + (p.threads.map (fun f => cnt f.body)).sum := by
  simp [flats, rowsOf, List.length_flatMap, cnt, Function.comp_def]
theorem flats_take (R : List (Value × List St)) (k : Nat) : (flats (R.take k)).length ≤ (flats R).length := by
  have : flats R = flats (R.take k) ++ flats (R.drop k) := by
    unfold flats
    rw [← List.flatMap_append, List.take_append_drop]
  rw [this]
  simp
/-- What is known of a row of a program. -/
structure RowGood (W : World) (r : Value × List St) : Prop where
  sts : stsOk W (fun _ => True) r.1 r.2
  txt : (rowT r.2).length ≤ 2000000
  few : cnt r.2 ≤ 60
theorem rows_good {w w' W : World} {N : List Int} {p : Pg} (h : MakeOut w w' N p) (hp : p.ok W (fun _ => True)) : ∀ r ∈ rowsOf p, RowGood W r := fun r hr => by
  have h1 := h.texts
  simp only [rowsOf, List.mem_append, List.mem_map] at hr
  rcases hr with ⟨f, hf, rfl⟩ | ⟨t, ht, rfl⟩
  · have h2 := mem_flat_le Fn.texts p.funs f hf
    simp only [Pg.texts, List.length_append] at h1
    simp only [Fn.texts, List.length_cons, List.length_append] at h2
    exact ⟨(hp.2.2.1.2 f hf).2, by show (rowT f.body).length ≤ 2000000; omega, h.cnt_fn f hf⟩
  · exact ⟨hp.2.2.2.2 t ht, h.rows t ht, h.cnt_th t ht⟩
/-- What stands at a spot of it. -/
theorem RowsV.at {W w : World} {v : Value} {L : List Value} (h : RowsV W w v L) {k : Nat} {y : Value} (hk : L[k]? = some y) : ∃ g cap, v = .slice (some ⟨g, 0, none⟩) L.length cap ∧ w.cell? ⟨g, k, none⟩ = some y := by
  have hlt : k < L.length := (List.getElem?_eq_some_iff.1 hk).1
  rcases h.own.2 with ⟨_, h2⟩ | ⟨g, cap, cur, hv, hb, hg, hn, hc, hs, ht⟩
  · omega
  · refine ⟨g, cap, hv, ?_⟩
    rw [cell_of_row w g k cur _ _ hg]
    rw [← ht, List.getElem?_take] at hk
    split at hk
    · simpa using hk
    · simp at hk
theorem funsM_len (N : List Int) (k : Nat) : ∀ i l, (funsM N k i l).1.1.length = k := by
  induction k with
  | zero => intro i l; rfl
  | succ k ih => intro i l; simp only [funsM, List.length_cons, ih]
theorem thsM_len (N : List Int) (k : Nat) : ∀ i l, (thsM N k i l).1.1.length = k := by
  induction k with
  | zero => intro i l; rfl
  | succ k ih => intro i l; simp only [thsM, List.length_cons, ih]
theorem MakeOut.few {w w' : World} {N : List Int} {p : Pg} (h : MakeOut w w' N p) : p.funs.length ≤ 2 ∧ p.threads.length ≤ 3 := by
  have e1 : p.funs.length = (makeM N).funs.length := by rw [← h.bare]; simp [Pg.bare]
  have e2 : p.threads.length = (makeM N).threads.length := by rw [← h.bare]; simp [Pg.bare]
  have k2 := pk_lt N 3 (globsN N).2 (by omega)
  have k3 := pk_lt N 4 (funsN N).1.2 (by omega)
  rw [e1, e2]
  simp only [makeM, funsN, thsN, funsM_len, thsM_len]
  simp only [funsN] at k3
  omega
section
variable {ops : Array Oper} {rest : List Oper} {o : Oper} {a : Act} {Q : Exit → Act → World → Prop}
theorem wl_appV (hgd : o.guard = none) (s x : Operand) (ho : o.op = .call { callee := .builtin .append, args := #[s, x], argTypes := #[56, 56] }) (W w : World) (v : Value) (hs : a.eval s = v) (L : List Value) (hr : RowsV W w v L) (y : Value) (h1 : y.oneCell' = true)
    (b : Nat) (hb : b = w.heap.size) (hx : a.eval x = .slice (some ⟨b, 0, none⟩) 1 1) (hl : L.length ≤ 1000) (h : ∀ v' w', RowsV W w' v' (L ++ [y]) → wpList Try.prog ops Q rest (a.put o.dst v') w') : wpList Try.prog ops Q (o :: rest) a (w.alloc (.cells #[y] 35)) := by
  have ba : Below w.heap.size w (w.alloc (.cells #[y] 35)) := (Below.refl _ _).alloc (Nat.le_refl _) _
  have hr' := hr.kept ba
  rw [hb] at hx
  refine wl_append_row hgd s x 56 ho W.heap.size 35 (.slice none 0 0) 1 24 Try.underlying56 info35z rfl (by decide) v hs L.length L hr'.own _ hx (fun _ => True) 1 [y] (RowAt.made w [y] 35 (fun _ => True) trivial 1 rfl) (by simp [h1]) (by omega) (by decide) hr'.bel.size ?_
  intro v' w' o1 gr _
  refine h v' w' ⟨by simpa using o1, ?_⟩
  exact hr'.bel.trans ⟨gr.os, gr.tape, gr.output, gr.size, fun i hi => gr.block i (by have := hr'.bel.size; omega) (fun e => by have := (own_lt hr'.own e.symm).1; omega)⟩
end
end Go.Proofs.Ytfdfeiempeciiaa

/- The walk of TreeAll. -/
namespace Go.Proofs.Ytfdfeiempeciiaa
open Go.ChangeShapes Go.WideShapes Go.ChangeAt Go.RowKit
set_option linter.unusedVariables false

set_option maxRecDepth 100000 in
set_option maxHeartbeats 1000000 in
theorem all_law (v0 : Value) (N : List Int) (most : Int) (w : World) (hI : IsInts w w.heap.size v0 N) (hm : I64 most) :
    Calls Try.prog 4 #[v0, .int .i64 most] w fun e w' => e = .returned (.bool true) ∧ Below w.heap.size w w' := by
  obtain ⟨av, capv, hv, hi⟩ := hI
  have hI : Hid (IsInts w w.heap.size v0 N) := hid ⟨av, capv, hv, hi⟩
  subst hv
  clear hi
  go_enter Try.func4, Try.ntmps4
  go_wp2_with fail
  refine (alive_any _).mono ?_
  rintro e wa ⟨rfl, hba⟩
  replace hba := hid hba
  by_cases hf1 : N.length ≤ 400
  · have g1 : decide ((N.length : Int) > 400) = false := by simp; omega
    have hIa := hid ((hI.out.keep (fun b hb => hba.out.block b hb)).up hba.out.size)
    go_wp2_with fail
    refine (make_any _ _ N hIa.out hf1).mono ?_
    rintro e wm ⟨p, rfl, mp⟩
    replace mp := hid mp
    unfold Pg.val
    have o7 := hid (Pg.ones p mp.out.ok)
    have agp : AggT 29 p.cells.length := agg29
    go_upto_region 8 with (refine wl_store_new 29 _ _ rfl rfl wm 29 _ rfl wm.heap.size rfl rfl p.cells rfl agp rfl o7.out ?_)
    have bW : Below wm.heap.size wm (wm.alloc (.cells p.cells.toArray 29)) := (Below.refl _ _).alloc (Nat.le_refl _) _
    have V5 := hid (VarAt.new wm p.cells 29)
    have pk : Hid (p.ok (wm.alloc (.cells p.cells.toArray 29)) (fun _ => True)) := hid ((mp.out.ok.mono (fun _ _ _ => trivial)).kept bW)
    have B8 : Hid (Below w.heap.size w (wm.alloc (.cells p.cells.toArray 29))) := hid (Below.over hba.out (Below.over mp.out.bel bW))
    have rt := hid mp.out.texts
    have mpl := mp.out.few
    have gd := hid (rows_good mp.out pk.out)
    have cs := hid mp.out.cnts
    generalize hWW : wm.alloc (.cells p.cells.toArray 29) = W at *
    obtain ⟨pf, cf, epf⟩ := pk.out.2.2.1.1.form
    obtain ⟨pt, ct, ept⟩ := pk.out.2.2.2.1.form
    have k5 : W.cell? ⟨wm.heap.size, 2, none⟩ = some (.slice pf p.funs.length cf) := by rw [← epf]; exact V5.out.cell 2 rfl
    have fl : Hid (p.funs.length ≤ 2 ∧ p.threads.length ≤ 3) := hid mpl
    have n47 := pk.out.2.2.1.1.1.2
    have n48 := pk.out.2.2.2.1.1.2
    have fns := pk.out.2.2.1
    rw [epf] at fns
    replace fns := hid fns
    have ths := pk.out.2.2.2
    rw [ept] at ths
    replace ths := hid ths
    replace epf := hid epf
    replace ept := hid ept
    clear hWW mp hIa hI hba o7 agp bW
    go_wp2_with fail
    go_loopw [36, 8] (fun vi vr wr => ∃ (k : Nat) (pr : Option Addr) (nr cr : Nat), k ≤ p.funs.length ∧ vi = .int .i64 k ∧ vr = .slice pr nr cr ∧ Hid (RowsV W wr (.slice pr nr cr) ((p.funs.take k).map Fn.bv))) (fun vi _ _ => p.funs.length - (intOf vi).toNat)
    case atStart => exact ⟨0, none, 0, 0, Nat.zero_le _, rfl, rfl, hid (RowsV.start W)⟩
    case round =>
      obtain ⟨k, pr, nr, cr, hk, rfl, rfl, hat⟩ := hrel
      by_cases hlt : k < p.funs.length
      · obtain ⟨t, ht⟩ : ∃ t, p.funs[k]? = some t := ⟨_, List.getElem?_eq_getElem hlt⟩
        have htm := List.mem_of_getElem? ht
        obtain ⟨g, cap, eg, hF, hgl, hrg⟩ := RowAt.elem Fn.len fns.out.1 ht
        obtain ⟨rfl, -, rfl⟩ := Value.slice.inj eg
        clear eg
        have tko := hid (Fn.ok.keep (fns.out.2 t htm) (fun g _ hl => hat.out.bel.block g hl))
        have rg := hid (rangeAt_kept hrg hat.out.bel)
        have hk0 : (0 : Int) ≤ (k : Int) := Int.natCast_nonneg _
        have hk1 : (k : Int) < (p.funs.length : Int) := by omega
        have one := hid (Fn.one' tko.out)
        obtain ⟨pb, cb, eb⟩ := tko.out.2.1.form
        have agt : AggT 58 t.cells.length := agg58
        have ba : Below wr.heap.size wr (wr.alloc (.cells t.cells.toArray 58)) := (Below.refl _ _).alloc (Nat.le_refl _) _
        have c2 : (wr.alloc (.cells t.cells.toArray 58)).cell? ⟨wr.heap.size, 2, none⟩ = some (.slice pb t.body.length cb) := by rw [← eb]; exact (VarAt.new wr t.cells 58).cell 2 rfl
        have hat' := hid (hat.out.kept ba)
        have ll : Hid (((p.funs.take k).map Fn.bv).length ≤ 1000) := hid (by simp; have := fl.out; omega)
        have st : Hid ((p.funs.take (k + 1)).map Fn.bv = (p.funs.take k).map Fn.bv ++ [.slice pb t.body.length cb]) := hid (by rw [List.take_add_one, ht]; simp [eb])
        replace eb := hid eb
        clear hrg tko ba k5
        go_wp2_with (first
          | refine wl_load 58 _ rfl rfl g (k * 5) rfl t.cells rg.out agt ?_
          | refine wl_store_new 58 _ _ rfl rfl wr 58 _ rfl wr.heap.size rfl rfl t.cells rfl agt rfl one.out ?_
          | (refine wl_appV rfl _ _ rfl W (wr.alloc (.cells t.cells.toArray 58)) (.slice pr nr cr) rfl _ hat'.out (.slice pb t.body.length cb) rfl (wr.heap.size + 1) (World.size_alloc ..).symm rfl ll.out ?_
             intro v' w' h'
             obtain ⟨p', n', c', rfl⟩ := h'.form3
             rw [← st.out] at h'
             replace h' := hid h'))
        go_roundw
        case rel => exact ⟨k + 1, _, _, _, by omega, by go_num, rfl, h'⟩
        case measure => simp [intOf]; omega
      · have hkl : p.funs.take k = p.funs := List.take_of_length_le (by omega)
        rw [hkl] at hat
        have k5' : wr.cell? ⟨wm.heap.size, 3, none⟩ = some (.slice pt p.threads.length ct) := by rw [← ept.out]; exact (V5.out.kept hat.out.bel).cell 3 rfl
        clear hkl k5
        go_wp2_with fail
        rename World => wf
        go_loopw [49, 8] (fun vi vr wr => ∃ (k : Nat) (pr : Option Addr) (nr cr : Nat), k ≤ p.threads.length ∧ vi = .int .i64 k ∧ vr = .slice pr nr cr ∧ Hid (RowsV W wr (.slice pr nr cr) (p.funs.map Fn.bv ++ (p.threads.take k).map Th.bv))) (fun vi _ _ => p.threads.length - (intOf vi).toNat)
        case atStart => exact ⟨0, _, _, _, Nat.zero_le _, rfl, rfl, by simpa using hat⟩
        case round =>
          clear hat hlt hk
          obtain ⟨k2, pr2, nr2, cr2, hk2, rfl, rfl, hat⟩ := hrel
          by_cases hlt : k2 < p.threads.length
          · obtain ⟨t, ht⟩ : ∃ t, p.threads[k2]? = some t := ⟨_, List.getElem?_eq_getElem hlt⟩
            have htm := List.mem_of_getElem? ht
            obtain ⟨g, cap, eg, hF, hgl, hrg⟩ := RowAt.elem Th.len ths.out.1 ht
            obtain ⟨rfl, -, rfl⟩ := Value.slice.inj eg
            clear eg
            have tko := hid (stsOk.keep (ths.out.2 t htm) (fun g _ hl => hat.out.bel.block g hl))
            have rg := hid (rangeAt_kept hrg hat.out.bel)
            have hk0 : (0 : Int) ≤ (k2 : Int) := Int.natCast_nonneg _
            have hk1 : (k2 : Int) < (p.threads.length : Int) := by omega
            have one := hid (Th.ok.one tko.out)
            obtain ⟨pb, cb, eb⟩ := tko.out.1.form
            have agt : AggT 37 t.cells.length := agg37
            have ba : Below wr.heap.size wr (wr.alloc (.cells t.cells.toArray 37)) := (Below.refl _ _).alloc (Nat.le_refl _) _
            have c2 : (wr.alloc (.cells t.cells.toArray 37)).cell? ⟨wr.heap.size, 0, none⟩ = some (.slice pb t.body.length cb) := by rw [← eb]; exact (VarAt.new wr t.cells 37).cell 0 rfl
            have hat' := hid (hat.out.kept ba)
            have ll : Hid ((p.funs.map Fn.bv ++ (p.threads.take k2).map Th.bv).length ≤ 1000) := hid (by simp; have := fl.out; omega)
            have st : Hid (p.funs.map Fn.bv ++ (p.threads.take (k2 + 1)).map Th.bv = (p.funs.map Fn.bv ++ (p.threads.take k2).map Th.bv) ++ [.slice pb t.body.length cb]) := hid (by rw [List.take_add_one, ht]; simp [eb])
            replace eb := hid eb
            clear hrg tko ba k5'
            go_wp2_with (first
              | refine wl_load 37 _ rfl rfl g (k2 * 3) rfl t.cells rg.out agt ?_
              | refine wl_store_new 37 _ _ rfl rfl wr 37 _ rfl wr.heap.size rfl rfl t.cells rfl agt rfl one.out ?_
              | (refine wl_appV rfl _ _ rfl W (wr.alloc (.cells t.cells.toArray 37)) (.slice pr2 nr2 cr2) rfl _ hat'.out (.slice pb t.body.length cb) rfl (wr.heap.size + 1) (World.size_alloc ..).symm rfl ll.out ?_
                 intro v' w' h'
                 obtain ⟨p', n', c', rfl⟩ := h'.form3
                 rw [← st.out] at h'
                 replace h' := hid h'))
            go_roundw
            case rel => exact ⟨k2 + 1, _, _, _, by omega, by go_num, rfl, h'⟩
            case measure => simp [intOf]; omega
          · have hkl : p.threads.take k2 = p.threads := List.take_of_length_le (by omega)
            rw [hkl, ← rows_vals] at hat
            have V5' := hid (V5.out.kept hat.out.bel)
            have gd' : Hid (∀ r ∈ rowsOf p, RowGood wr r) := hid (fun r hr => ⟨(gd.out r hr).sts.kept hat.out.bel, (gd.out r hr).txt, (gd.out r hr).few⟩)
            have pk' := hid (pk.out.keep (fun g _ hl => hat.out.bel.block g hl))
            have B9 := hid (Below.over B8.out hat.out.bel)
            have eL : Hid ((flats (rowsOf p)).length ≤ 60 ∧ flats (rowsOf p) = funsL p.funs ++ thsL p.threads) := hid ⟨by rw [sum_len]; exact cs.out, flats_rows p⟩
            have nR : Hid (nr2 = (rowsOf p).length) := hid (by obtain ⟨_, _, e⟩ := hat.out.form; obtain ⟨_, e, _⟩ := Value.slice.inj e; simpa using e)
            rename World => wq
            clear hkl gd pk B8 V5 fns ths epf ept k5'
            generalize hR : rowsOf p = R at *
            have n2 : nr2 ≤ 1000 := by have := nR.out; have := congrArg List.length hR; have := fl.out; simp [rowsOf] at *; omega
            go_wp2_with fail
            go_loopw [61, 6, 7] (fun vi v6 v7 wr => ∃ k : Nat, k ≤ R.length ∧ vi = .int .i64 k ∧ v6 = .int .i64 (flats (R.take k)).length ∧ v7 = .int .i64 (maxF (-1) (flats (R.take k))) ∧ Hid (Below wq.heap.size wq wr)) (fun vi _ _ _ => R.length - (intOf vi).toNat)
            case atStart => exact ⟨0, Nat.zero_le _, rfl, rfl, rfl, hid (Below.refl _ _)⟩
            case round =>
              obtain ⟨i, hi, rfl, rfl, rfl, hbe⟩ := hrel
              by_cases hil : i < R.length
              · obtain ⟨r, hr⟩ : ∃ r, R[i]? = some r := ⟨_, List.getElem?_eq_getElem hil⟩
                have hrm := List.mem_of_getElem? hr
                obtain ⟨g, cap, eg, hc⟩ := hat.out.at (k := i) (y := r.1) (by simp [hr])
                obtain ⟨rfl, -, rfl⟩ := Value.slice.inj eg
                have gr := gd'.out r hrm
                have hst := hid (gr.sts.kept hbe.out)
                have htx := hid gr.txt
                have hfw := hid gr.few
                obtain ⟨pb, cb, eb⟩ := hst.out.1.form
                have hcr : wr.cell? ⟨g, i, none⟩ = some (.slice pb r.2.length cb) := by rw [← eb]; exact (hbe.out.cell (World.block_lt_of_cell? wq _ hc)).trans hc
                have hi0 : (0 : Int) ≤ (i : Int) := Int.natCast_nonneg _
                have hi1 : (i : Int) < (nr2 : Int) := by have := nR.out; omega
                have fs := hid (flats_step R i r hr)
                have ft := hid (flats_take R (i + 1))
                rw [eb] at hst
                generalize r.2 = l at *
                generalize hA : flats (R.take i) = A at *
                have hn6 : Hid (cnt l ≤ 1000000) := hid (by have := hfw.out; omega)
                replace eb := hid eb
                replace hA := hid hA
                have G1 := hid (gone_any l (.slice pb l.length cb) most wr _ hst.out htx.out hn6.out hm)
                clear eg gr hc
                go_wp2_with fail
                refine G1.out.mono ?_
                rintro e w21 ⟨rfl, hb⟩
                replace hst := hid (hst.out.kept hb)
                replace hbe := hid (Below.over hbe.out hb)
                clear hb G1 hcr
                have G2 := hid (goneN l (.slice pb l.length cb) w21 _ hst.out htx.out (by have := hfw.out; omega))
                go_wp2_with fail
                refine G2.out.mono ?_
                rintro e w24 ⟨rfl, hb⟩
                replace hst := hid (hst.out.kept hb)
                replace hbe := hid (Below.over hbe.out hb)
                clear hb G2
                have G3 := hid (flat_any l (.slice pb l.length cb) 0 w24 _ hst.out hn6.out)
                go_wp2_with fail
                refine G3.out.mono ?_
                rintro e w27 ⟨p1, n1, c1, q1, m1, d1, rfl, two⟩
                have en1 : n1 = (flatL 0 l).length := by
                  obtain ⟨_, _, e⟩ := own_slice two.o1
                  obtain ⟨_, e, _⟩ := Value.slice.inj e
                  simpa using e
                replace hst := hid (hst.out.kept two.bel)
                replace hbe := hid (Below.over hbe.out two.bel)
                replace two := hid two
                clear G3
                have n60 : Hid (A.length + n1 ≤ 60) := hid (by have e1 := fs.out; have e2 := ft.out; have e3 := eL.out.1; rw [e1] at e2; simp at e2; omega)
                have wn : wrap64 ((A.length : Int) + (n1 : Int)) = ((A.length + n1 : Nat) : Int) := by have := n60.out; unfold wrap64; omega
                replace en1 := hid en1
                have n1s : n1 ≤ 60 := by have := n60.out; omega
                have hwn : Hid (wrap64 ((A.length : Int) + (n1 : Int)) = (A.length : Int) + (n1 : Int)) := hid (by have := n60.out; unfold wrap64; omega)
                have i1000 : i < 1000 := by have := nR.out; omega
                go_wp2_with fail
                clear rt mpl cs fl n47 n48 hk2 hlt hR n2 hr hrm hi0 hi1 g1 hf1
                generalize hm0 : maxF (-1) A = m0
                replace hm0 := hid hm0
                generalize hxs : flatL 0 l = xs at *
                replace hxs := hid hxs
                replace hil := hid hil
                replace hi := hid hi
                clear wn
                go_loopw [91, 7, 21] (fun vi v7 v21 wx => ∃ (j : Nat) (pc : Option Addr) (nc cc : Nat), j ≤ n1 ∧ vi = .int .i64 j ∧ v7 = .int .i64 (maxF m0 (xs.take j)) ∧ v21 = .slice pc nc cc ∧ Hid (Txts w27 wx (.slice pc nc cc) (callsOf (xs.take j)))) (fun vi _ _ _ => n1 - (intOf vi).toNat)
                case atStart => exact ⟨0, none, 0, 0, Nat.zero_le _, rfl, rfl, rfl, hid ⟨⟨by simp [callsOf], .inl ⟨rfl, by simp [callsOf]⟩⟩, Below.refl _ _⟩⟩
                case round =>
                  obtain ⟨j, pc, nc, cc, hj, rfl, rfl, rfl, htt⟩ := hrel
                  rename World => wx
                  by_cases hjl : j < n1
                  · obtain ⟨y, hy⟩ : ∃ y, xs[j]? = some y := ⟨_, List.getElem?_eq_getElem (by have := en1.out; omega)⟩
                    have r1 := RowAt.of_owns (F := fun _ => True) two.out.o1 (by have := en1.out; simp; omega) (fun _ _ => trivial)
                    have r2 := RowAt.of_owns (F := fun _ => True) two.out.o2 (by have := en1.out; simp; omega) (fun _ _ => trivial)
                    obtain ⟨ga, ca, ev1, _, _, hra⟩ := RowAt.elem St.len r1 (k := j) (x := y.2) (by simp [hy])
                    obtain ⟨gb, cb2, ev2, _, _, hrb⟩ := RowAt.elem (f := intC) (s := 1) (fun x => rfl) r2 (k := j) (x := y.1) (by simp [hy])
                    obtain ⟨rfl, -, rfl⟩ := Value.slice.inj ev1
                    obtain ⟨rfl, em1, rfl⟩ := Value.slice.inj ev2
                    simp only [List.length_map] at em1
                    have sok := hid (flatL_ok 0 hst.out.2 y (by rw [hxs.out]; exact List.mem_of_getElem? hy)).hd.one
                    have ba : Below (World.heap wx).size wx (World.alloc wx (.cells y.2.cells.toArray 52)) := (Below.refl _ _).alloc (Nat.le_refl _) _
                    have rga := hid (rangeAt_kept hra htt.out.bel)
                    have cdp : (World.alloc wx (.cells y.2.cells.toArray 52)).cell? ⟨gb, j, none⟩ = some (.int .i64 y.1) := by
                      have := (rangeAt_kept (rangeAt_kept hrb htt.out.bel) ba) 0 (.int .i64 y.1) rfl
                      simpa using this
                    have hj0 : (0 : Int) ≤ (j : Int) := Int.natCast_nonneg _
                    have hj1 : (j : Int) < (n1 : Int) := by omega
                    have hj2 : (j : Int) < (m1 : Int) := by have := en1.out; omega
                    have hmx := hid (maxF_snoc m0 xs j y hy)
                    have hcs := hid (callsOf_step xs j y hy)
                    have lcs : Hid ((callsOf (xs.take j)).length ≤ 1000) := hid (by have := callsOf_len (xs.take j); simp at this; omega)
                    have cop := (VarAt.new wx y.2.cells 52).cell 0 (v := .int .i64 y.2.op) rfl
                    have cnm := (VarAt.new wx y.2.cells 52).cell 1 (v := .string y.2.nm) rfl
                    have agy := y.2.agg
                    have tx1 := hid (htt.out.keep ba)
                    generalize maxF m0 (xs.take j) = mj at *
                    replace em1 := hid em1
                    clear r1 r2 ev1 ev2 hra hrb ba hst hy
                    by_cases hop : (y.2.op == 11) = true
                    · rw [if_pos hop] at hcs
                      have tx2 := hid (tx1.out.keep ((Below.refl _ _).alloc (Nat.le_refl _) (.cells #[.string y.2.nm] 9)))
                      have hrow : Hid (strsAt ((World.alloc wx (.cells y.2.cells.toArray 52)).alloc (.cells #[.string y.2.nm] 9)) (fun _ => True) (.slice (some ⟨(World.heap wx).size + 1, 0, none⟩) 1 1) [y.2.nm]) := hid (by
                        have := RowAt.made (World.alloc wx (.cells y.2.cells.toArray 52)) [.string y.2.nm] 9 (fun _ => True) trivial 1 rfl
                        rw [World.size_alloc] at this
                        exact this)
                      go_wp2_with (first
                        | refine wl_load 52 _ rfl rfl ga (j * 58) rfl y.2.cells rga.out agy ?_
                        | refine wl_store_new 52 _ _ rfl rfl wx 52 _ rfl (World.heap wx).size rfl rfl y.2.cells rfl agy rfl sok.out ?_
                        | (refine wl_app2 rfl _ _ rfl (.slice pc nc cc) rfl (callsOf (xs.take j)) tx2.out (.slice (some ⟨(World.heap wx).size + 1, 0, none⟩) 1 1) rfl (fun _ => True) [y.2.nm] hrow.out (by have := lcs.out; simp; omega) ?_
                           intro p' c' w' n' L' hL hT' hG'
                           rw [← hcs.out] at hL))
                      go_roundw
                      case rel => exact ⟨j + 1, _, _, _, by omega, by go_num, by rw [hmx.out]; congr 1; split <;> omega, rfl, by rw [← hL.out]; exact hT'⟩
                      case measure => simp [intOf]; omega
                    · have hof : (y.2.op == 11) = false := by simpa using hop
                      rw [if_neg hop, List.append_nil] at hcs
                      go_wp2_with (first
                        | refine wl_load 52 _ rfl rfl ga (j * 58) rfl y.2.cells rga.out agy ?_
                        | refine wl_store_new 52 _ _ rfl rfl wx 52 _ rfl (World.heap wx).size rfl rfl y.2.cells rfl agy rfl sok.out ?_)
                      go_roundw
                      case rel => exact ⟨j + 1, _, _, _, by omega, by go_num, by rw [hmx.out]; congr 1; split <;> omega, rfl, by rw [hcs.out]; exact tx1⟩
                      case measure => simp [intOf]; omega
                  · have hkl : xs.take j = xs := List.take_of_length_le (by have := en1.out; omega)
                    rw [hkl] at htt
                    rw [hkl]
                    have CA := hid (calls_any l (.slice pb l.length cb) wx _ (hst.out.kept htt.out.bel) (by have := hn6.out; exact this))
                    rw [hxs.out] at CA
                    have lc : Hid ((callsOf xs).length ≤ 2000000) := hid (by have := callsOf_len xs; have := en1.out; omega)
                    clear hkl hst two
                    go_wp2_with fail
                    refine CA.out.mono ?_
                    rintro e w37 ⟨u, rfl, hu⟩
                    have CS := hid (refSame_any (callsOf xs) (callsOf xs) u (.slice pc nc cc) w37 _ _ (hu.row lc.out) ((htt.out.keep hu.bel).row lc.out))
                    rw [sameT_refl] at CS
                    replace hu := hid hu
                    clear CA
                    go_wp2_with fail
                    refine CS.out.mono ?_
                    rintro e w38 ⟨rfl, hb⟩
                    have hfin := hid (Below.over hbe.out (Below.over htt.out.bel (Below.over hu.out.bel hb)))
                    clear CS hu hb htt hbe
                    go_wp2_with fail
                    go_roundw
                    case rel => exact ⟨i + 1, by have := hil.out; omega, by go_num, by rw [fs.out, List.length_append, ← en1.out]; simp; exact hwn.out, by rw [fs.out, maxF_app, hm0.out], hfin⟩
                    case measure => simp [intOf]; have := hil.out; omega
              · have hkl : R.take i = R := List.take_of_length_le (by omega)
                rw [hkl]
                have CT := hid (count_any p wr _ (pk'.out.keep (fun g _ hl => hbe.out.block g hl)))
                unfold Pg.val at CT
                rw [← eL.out.2, cntF_len _ 0 (by omega) (by have := eL.out.1; omega), Int.zero_add] at CT
                have rgP := hid (V5'.out.kept hbe.out).range
                have agp : AggT 29 p.cells.length := agg29
                have B10 := hid (Below.over B9.out hbe.out)
                have hend : ¬ i < nr2 := by have := nR.out; omega
                have hend2 : ¬ ((i : Int) < (nr2 : Int)) := by omega
                generalize ((flats R).length : Int) = fn at *
                generalize maxF (-1) (flats R) = fm at *
                clear rt mpl cs fl n47 n48 hk2 hlt hR n2 g1 hf1 hat gd' pk' eL nR hkl V5' B9 hbe
                go_wp2_with (refine wl_load 29 _ rfl rfl wm.heap.size 0 rfl p.cells rgP.out agp ?_)
                refine CT.out.mono ?_
                rintro e w40 ⟨rfl, hb⟩
                replace B10 := hid (Below.over B10.out hb)
                clear CT hb rgP
                go_wp2_with fail
                go_ret
                exact ⟨rfl, B10.out⟩
  · have g1 : decide ((N.length : Int) > 400) = true := by simp; omega
    go_wp2_with fail
    go_ret
    exact ⟨rfl, hba.out⟩
end Go.Proofs.Ytfdfeiempeciiaa
