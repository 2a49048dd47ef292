/- Contracts of shapeOf, Has and has: which fields an instruction has. -/
import Derived.Test.YtkdpcaoocmbbhaaDoorSm1
namespace Go.Proofs.YtkdpcaoocmbbhaaDoor
open Go.ChangeShapes Go.WideShapes Go.ChangeAt Go.RowKit
set_option linter.unusedVariables false
set_option linter.unusedSimpArgs false

set_option maxHeartbeats 1000000 in
theorem shape2 (w : World) : Calls Tryd.prog 76 #[.int .i64 2] w fun e w' => e = .returned (.tuple #[shapeV 2, .bool true]) ∧ Below w.heap.size w w' := by
  go_enter Tryd.func76, Tryd.ntmps76
  go_wp2
  try simp only [Exit.inBlock, Exit.then]
  refine bodyPost_ret (results_row_tmp (P := Tryd.prog) rfl _ _ w.heap.size _ _ _ _ rfl (by first | exact heap_alloc_new _ _ | skip) Tryd.underlying115 rfl (by kernel_rfl)) rfl ?_
  exact ⟨rfl, (Below.refl _ _).alloc (Nat.le_refl _) _⟩

set_option maxHeartbeats 1000000 in
theorem shape3 (w : World) : Calls Tryd.prog 76 #[.int .i64 3] w fun e w' => e = .returned (.tuple #[shapeV 3, .bool true]) ∧ Below w.heap.size w w' := by
  go_enter Tryd.func76, Tryd.ntmps76
  go_wp2
  try simp only [Exit.inBlock, Exit.then]
  refine bodyPost_ret (results_row_tmp (P := Tryd.prog) rfl _ _ w.heap.size _ _ _ _ rfl (by first | exact heap_alloc_new _ _ | skip) Tryd.underlying115 rfl (by kernel_rfl)) rfl ?_
  exact ⟨rfl, (Below.refl _ _).alloc (Nat.le_refl _) _⟩

set_option maxHeartbeats 1000000 in
theorem shape4 (w : World) : Calls Tryd.prog 76 #[.int .i64 4] w fun e w' => e = .returned (.tuple #[shapeV 4, .bool true]) ∧ Below w.heap.size w w' := by
  go_enter Tryd.func76, Tryd.ntmps76
  go_wp2
  try simp only [Exit.inBlock, Exit.then]
  refine bodyPost_ret (results_row_tmp (P := Tryd.prog) rfl _ _ w.heap.size _ _ _ _ rfl (by first | exact heap_alloc_new _ _ | skip) Tryd.underlying115 rfl (by kernel_rfl)) rfl ?_
  exact ⟨rfl, (Below.refl _ _).alloc (Nat.le_refl _) _⟩

set_option maxHeartbeats 1000000 in
theorem shape5 (w : World) : Calls Tryd.prog 76 #[.int .i64 5] w fun e w' => e = .returned (.tuple #[shapeV 5, .bool true]) ∧ Below w.heap.size w w' := by
  go_enter Tryd.func76, Tryd.ntmps76
  go_wp2
  try simp only [Exit.inBlock, Exit.then]
  refine bodyPost_ret (results_row_tmp (P := Tryd.prog) rfl _ _ w.heap.size _ _ _ _ rfl (by first | exact heap_alloc_new _ _ | skip) Tryd.underlying115 rfl (by kernel_rfl)) rfl ?_
  exact ⟨rfl, (Below.refl _ _).alloc (Nat.le_refl _) _⟩

set_option maxHeartbeats 1000000 in
theorem shape6 (w : World) : Calls Tryd.prog 76 #[.int .i64 6] w fun e w' => e = .returned (.tuple #[shapeV 6, .bool true]) ∧ Below w.heap.size w w' := by
  go_enter Tryd.func76, Tryd.ntmps76
  go_wp2
  try simp only [Exit.inBlock, Exit.then]
  refine bodyPost_ret (results_row_tmp (P := Tryd.prog) rfl _ _ w.heap.size _ _ _ _ rfl (by first | exact heap_alloc_new _ _ | skip) Tryd.underlying115 rfl (by kernel_rfl)) rfl ?_
  exact ⟨rfl, (Below.refl _ _).alloc (Nat.le_refl _) _⟩

set_option maxHeartbeats 1000000 in
theorem shape7 (w : World) : Calls Tryd.prog 76 #[.int .i64 7] w fun e w' => e = .returned (.tuple #[shapeV 7, .bool true]) ∧ Below w.heap.size w w' := by
  go_enter Tryd.func76, Tryd.ntmps76
  go_wp2
  try simp only [Exit.inBlock, Exit.then]
  refine bodyPost_ret (results_row_tmp (P := Tryd.prog) rfl _ _ w.heap.size _ _ _ _ rfl (by first | exact heap_alloc_new _ _ | skip) Tryd.underlying115 rfl (by kernel_rfl)) rfl ?_
  exact ⟨rfl, (Below.refl _ _).alloc (Nat.le_refl _) _⟩

set_option maxHeartbeats 1000000 in
theorem shape8 (w : World) : Calls Tryd.prog 76 #[.int .i64 8] w fun e w' => e = .returned (.tuple #[shapeV 8, .bool true]) ∧ Below w.heap.size w w' := by
  go_enter Tryd.func76, Tryd.ntmps76
  go_wp2
  try simp only [Exit.inBlock, Exit.then]
  refine bodyPost_ret (results_row_tmp (P := Tryd.prog) rfl _ _ w.heap.size _ _ _ _ rfl (by first | exact heap_alloc_new _ _ | skip) Tryd.underlying115 rfl (by kernel_rfl)) rfl ?_
  exact ⟨rfl, (Below.refl _ _).alloc (Nat.le_refl _) _⟩

set_option maxHeartbeats 1000000 in
theorem shape9 (w : World) : Calls Tryd.prog 76 #[.int .i64 9] w fun e w' => e = .returned (.tuple #[shapeV 9, .bool true]) ∧ Below w.heap.size w w' := by
  go_enter Tryd.func76, Tryd.ntmps76
  go_wp2
  try simp only [Exit.inBlock, Exit.then]
  refine bodyPost_ret (results_row_tmp (P := Tryd.prog) rfl _ _ w.heap.size _ _ _ _ rfl (by first | exact heap_alloc_new _ _ | skip) Tryd.underlying115 rfl (by kernel_rfl)) rfl ?_
  exact ⟨rfl, (Below.refl _ _).alloc (Nat.le_refl _) _⟩

set_option maxHeartbeats 1000000 in
theorem shape10 (w : World) : Calls Tryd.prog 76 #[.int .i64 10] w fun e w' => e = .returned (.tuple #[shapeV 10, .bool true]) ∧ Below w.heap.size w w' := by
  go_enter Tryd.func76, Tryd.ntmps76
  go_wp2
  try simp only [Exit.inBlock, Exit.then]
  refine bodyPost_ret (results_row_tmp (P := Tryd.prog) rfl _ _ w.heap.size _ _ _ _ rfl (by first | exact heap_alloc_new _ _ | skip) Tryd.underlying115 rfl (by kernel_rfl)) rfl ?_
  exact ⟨rfl, (Below.refl _ _).alloc (Nat.le_refl _) _⟩

set_option maxHeartbeats 1000000 in
theorem shape11 (w : World) : Calls Tryd.prog 76 #[.int .i64 11] w fun e w' => e = .returned (.tuple #[shapeV 11, .bool true]) ∧ Below w.heap.size w w' := by
  go_enter Tryd.func76, Tryd.ntmps76
  go_wp2
  try simp only [Exit.inBlock, Exit.then]
  refine bodyPost_ret (results_row_tmp (P := Tryd.prog) rfl _ _ w.heap.size _ _ _ _ rfl (by first | exact heap_alloc_new _ _ | skip) Tryd.underlying115 rfl (by kernel_rfl)) rfl ?_
  exact ⟨rfl, (Below.refl _ _).alloc (Nat.le_refl _) _⟩

set_option maxHeartbeats 1000000 in
theorem shape12 (w : World) : Calls Tryd.prog 76 #[.int .i64 12] w fun e w' => e = .returned (.tuple #[shapeV 12, .bool true]) ∧ Below w.heap.size w w' := by
  go_enter Tryd.func76, Tryd.ntmps76
  go_wp2
  try simp only [Exit.inBlock, Exit.then]
  refine bodyPost_ret (results_row_tmp (P := Tryd.prog) rfl _ _ w.heap.size _ _ _ _ rfl (by first | exact heap_alloc_new _ _ | skip) Tryd.underlying115 rfl (by kernel_rfl)) rfl ?_
  exact ⟨rfl, (Below.refl _ _).alloc (Nat.le_refl _) _⟩

set_option maxHeartbeats 1000000 in
theorem shape13 (w : World) : Calls Tryd.prog 76 #[.int .i64 13] w fun e w' => e = .returned (.tuple #[shapeV 13, .bool true]) ∧ Below w.heap.size w w' := by
  go_enter Tryd.func76, Tryd.ntmps76
  go_wp2
  try simp only [Exit.inBlock, Exit.then]
  refine bodyPost_ret (results_row_tmp (P := Tryd.prog) rfl _ _ w.heap.size _ _ _ _ rfl (by first | exact heap_alloc_new _ _ | skip) Tryd.underlying115 rfl (by kernel_rfl)) rfl ?_
  exact ⟨rfl, (Below.refl _ _).alloc (Nat.le_refl _) _⟩

set_option maxHeartbeats 1000000 in
theorem shape14 (w : World) : Calls Tryd.prog 76 #[.int .i64 14] w fun e w' => e = .returned (.tuple #[shapeV 14, .bool true]) ∧ Below w.heap.size w w' := by
  go_enter Tryd.func76, Tryd.ntmps76
  go_wp2
  try simp only [Exit.inBlock, Exit.then]
  refine bodyPost_ret (results_row_tmp (P := Tryd.prog) rfl _ _ w.heap.size _ _ _ _ rfl (by first | exact heap_alloc_new _ _ | skip) Tryd.underlying115 rfl (by kernel_rfl)) rfl ?_
  exact ⟨rfl, (Below.refl _ _).alloc (Nat.le_refl _) _⟩

set_option maxHeartbeats 1000000 in
theorem shape15 (w : World) : Calls Tryd.prog 76 #[.int .i64 15] w fun e w' => e = .returned (.tuple #[shapeV 15, .bool true]) ∧ Below w.heap.size w w' := by
  go_enter Tryd.func76, Tryd.ntmps76
  go_wp2
  try simp only [Exit.inBlock, Exit.then]
  refine bodyPost_ret (results_row_tmp (P := Tryd.prog) rfl _ _ w.heap.size _ _ _ _ rfl (by first | exact heap_alloc_new _ _ | skip) Tryd.underlying115 rfl (by kernel_rfl)) rfl ?_
  exact ⟨rfl, (Below.refl _ _).alloc (Nat.le_refl _) _⟩

set_option maxHeartbeats 1000000 in
theorem shape16 (w : World) : Calls Tryd.prog 76 #[.int .i64 16] w fun e w' => e = .returned (.tuple #[shapeV 16, .bool true]) ∧ Below w.heap.size w w' := by
  go_enter Tryd.func76, Tryd.ntmps76
  go_wp2
  try simp only [Exit.inBlock, Exit.then]
  refine bodyPost_ret (results_row_tmp (P := Tryd.prog) rfl _ _ w.heap.size _ _ _ _ rfl (by first | exact heap_alloc_new _ _ | skip) Tryd.underlying115 rfl (by kernel_rfl)) rfl ?_
  exact ⟨rfl, (Below.refl _ _).alloc (Nat.le_refl _) _⟩

set_option maxHeartbeats 1000000 in
theorem shape17 (w : World) : Calls Tryd.prog 76 #[.int .i64 17] w fun e w' => e = .returned (.tuple #[shapeV 17, .bool true]) ∧ Below w.heap.size w w' := by
  go_enter Tryd.func76, Tryd.ntmps76
  go_wp2
  try simp only [Exit.inBlock, Exit.then]
  refine bodyPost_ret (results_row_tmp (P := Tryd.prog) rfl _ _ w.heap.size _ _ _ _ rfl (by first | exact heap_alloc_new _ _ | skip) Tryd.underlying115 rfl (by kernel_rfl)) rfl ?_
  exact ⟨rfl, (Below.refl _ _).alloc (Nat.le_refl _) _⟩

set_option maxHeartbeats 1000000 in
theorem shape_out (op : Int) (w : World) (h : op < 1 ∨ 17 < op) : Calls Tryd.prog 76 #[.int .i64 op] w fun e w' => e = .returned (.tuple #[shapeV op, .bool false]) ∧ Below w.heap.size w w' := by
  have e1 : (op == 1) = false := by simp only [beq_eq_false_iff_ne]; omega
  have e2 : (op == 2) = false := by simp only [beq_eq_false_iff_ne]; omega
  have e3 : (op == 3) = false := by simp only [beq_eq_false_iff_ne]; omega
  have e4 : (op == 4) = false := by simp only [beq_eq_false_iff_ne]; omega
  have e5 : (op == 5) = false := by simp only [beq_eq_false_iff_ne]; omega
  have e6 : (op == 6) = false := by simp only [beq_eq_false_iff_ne]; omega
  have e7 : (op == 7) = false := by simp only [beq_eq_false_iff_ne]; omega
  have e8 : (op == 8) = false := by simp only [beq_eq_false_iff_ne]; omega
  have e9 : (op == 9) = false := by simp only [beq_eq_false_iff_ne]; omega
  have e10 : (op == 10) = false := by simp only [beq_eq_false_iff_ne]; omega
  have e11 : (op == 11) = false := by simp only [beq_eq_false_iff_ne]; omega
  have e12 : (op == 12) = false := by simp only [beq_eq_false_iff_ne]; omega
  have e13 : (op == 13) = false := by simp only [beq_eq_false_iff_ne]; omega
  have e14 : (op == 14) = false := by simp only [beq_eq_false_iff_ne]; omega
  have e15 : (op == 15) = false := by simp only [beq_eq_false_iff_ne]; omega
  have e16 : (op == 16) = false := by simp only [beq_eq_false_iff_ne]; omega
  have e17 : (op == 17) = false := by simp only [beq_eq_false_iff_ne]; omega
  have F : Hid (shapeV op = .agg #[.bool false, .bool false, .bool false, .bool false, .bool false, .bool false, .bool false]) := by
    simp [Hid, shapeV, hasD, hasS, hasR, hasN, hasT, hasI, hasX, *]
  go_enter Tryd.func76, Tryd.ntmps76
  go_wp2
  try simp only [Exit.inBlock, Exit.then]
  refine bodyPost_ret (results_row_tmp (P := Tryd.prog) rfl _ _ w.heap.size _ _ _ _ rfl (by first | exact heap_alloc_new _ _ | skip) Tryd.underlying115 rfl (by kernel_rfl)) rfl ?_
  rw [F.out]
  exact ⟨rfl, (Below.refl _ _).alloc (Nat.le_refl _) _⟩

theorem shape_any (op : Int) (w : World) : Calls Tryd.prog 76 #[.int .i64 op] w fun e w' => e = .returned (.tuple #[shapeV op, .bool (isOp op)]) ∧ Below w.heap.size w w' := by
  by_cases h : op < 1 ∨ 17 < op
  · have e : isOp op = false := by simp [isOp]; omega
    rw [e]; exact shape_out op w h
  · have e : isOp op = true := by simp [isOp]; omega
    rw [e]
    have : op = 1 ∨ op = 2 ∨ op = 3 ∨ op = 4 ∨ op = 5 ∨ op = 6 ∨ op = 7 ∨ op = 8 ∨ op = 9 ∨ op = 10 ∨ op = 11 ∨ op = 12 ∨ op = 13 ∨ op = 14 ∨ op = 15 ∨ op = 16 ∨ op = 17 := by omega
    rcases this with rfl | rfl | rfl | rfl | rfl | rfl | rfl | rfl | rfl | rfl | rfl | rfl | rfl | rfl | rfl | rfl | rfl
    · exact shape1 w
    · exact shape2 w
    · exact shape3 w
    · exact shape4 w
    · exact shape5 w
    · exact shape6 w
    · exact shape7 w
    · exact shape8 w
    · exact shape9 w
    · exact shape10 w
    · exact shape11 w
    · exact shape12 w
    · exact shape13 w
    · exact shape14 w
    · exact shape15 w
    · exact shape16 w
    · exact shape17 w

end Go.Proofs.YtkdpcaoocmbbhaaDoor
