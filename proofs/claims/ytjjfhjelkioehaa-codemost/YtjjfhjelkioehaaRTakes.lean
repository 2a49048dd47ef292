/- Contract of the document's Takes. -/
import Derived.Test.YtjjfhjelkioehaaCans
namespace Go.Proofs.Ytjjfhjelkioehaa
open Go.ChangeShapes Go.WideShapes Go.ChangeAt Go.RowKit
set_option linter.unusedVariables false
set_option linter.unusedSimpArgs false

/-- What the document's Takes answers. -/
def rtk (s : Int) (x : Itm) : Int := if can s x then tk x.op else -1

theorem rtk_none (s : Int) (op bin n : Int) (h : op < 1 ∨ 10 < op) : rtk s ⟨op, bin, n⟩ = -1 := by
  have e : can s ⟨op, bin, n⟩ = false := by
    unfold can tk
    rw [if_neg (by simp; omega), if_neg (by simp; omega), if_neg (by simp; omega)]
    have h4 : (op == 4) = false := by simp; omega
    have h5 : (op == 5) = false := by simp; omega
    have h6 : (op == 6) = false := by simp; omega
    have h7 : (op == 7) = false := by simp; omega
    have h8 : (op == 8) = false := by simp; omega
    have h9 : (op == 9) = false := by simp; omega
    have h10 : (op == 10) = false := by simp; omega
    simp [h4, h5, h6, h7, h8, h9, h10]
  unfold rtk
  rw [e]; rfl

theorem rtk_if (s op bin n : Int) (t : Nat) (P : Prop) [Decidable P] (hc : can s ⟨op, bin, n⟩ = true ↔ P) (ht : tk op = t) : rtk s ⟨op, bin, n⟩ = if P then (t : Int) else -1 := by
  unfold rtk
  by_cases h : P
  · rw [if_pos h, if_pos (hc.2 h)]; show (tk op : Int) = t; rw [ht]
  · rw [if_neg h, if_neg (fun c => h (hc.1 c))]

theorem rtk1 (s bin n : Int) : rtk s ⟨1, bin, n⟩ = if bin = 0 then ((0 : Nat) : Int) else -1 := rtk_if _ _ _ _ _ _ (by simp [can]) rfl
theorem rtk2 (s bin n : Int) : rtk s ⟨2, bin, n⟩ = if bin = 0 ∧ 0 < s ∧ n < s then ((0 : Nat) : Int) else -1 := rtk_if _ _ _ _ _ _ (by simp [can]) rfl
theorem rtk3 (s bin n : Int) : rtk s ⟨3, bin, n⟩ = if bin = 0 ∧ n < 16 then ((0 : Nat) : Int) else -1 := rtk_if _ _ _ _ _ _ (by simp [can]) rfl
theorem rtk4 (s bin n : Int) : rtk s ⟨4, bin, n⟩ = if bin = 0 ∧ n = 0 then ((1 : Nat) : Int) else -1 := rtk_if _ _ _ _ _ _ (by simp [can, tk]) rfl
theorem rtk5 (s bin n : Int) : rtk s ⟨5, bin, n⟩ = if bin = 0 ∧ n = 0 then ((1 : Nat) : Int) else -1 := rtk_if _ _ _ _ _ _ (by simp [can, tk]) rfl
theorem rtk6 (s bin n : Int) : rtk s ⟨6, bin, n⟩ = if bin = 0 ∧ n = 0 then ((1 : Nat) : Int) else -1 := rtk_if _ _ _ _ _ _ (by simp [can, tk]) rfl
theorem rtk7 (s bin n : Int) : rtk s ⟨7, bin, n⟩ = if bin = 0 ∧ n = 0 then ((1 : Nat) : Int) else -1 := rtk_if _ _ _ _ _ _ (by simp [can, tk]) rfl
theorem rtk8 (s bin n : Int) : rtk s ⟨8, bin, n⟩ = if n = 0 ∧ 0 ≤ bin ∧ bin ≤ 8 then ((2 : Nat) : Int) else -1 := rtk_if _ _ _ _ _ _ (by simp [can, tk, canJ]) rfl
theorem rtk9 (s bin n : Int) : rtk s ⟨9, bin, n⟩ = if n = 0 ∧ 0 ≤ bin ∧ bin ≤ 8 ∧ bin ≠ 4 then ((2 : Nat) : Int) else -1 := rtk_if _ _ _ _ _ _ (by simp [can, tk, canJ]) rfl
theorem rtk10 (s bin n : Int) : rtk s ⟨10, bin, n⟩ = if n = 0 ∧ (bin = 5 ∨ bin = 6) then ((2 : Nat) : Int) else -1 := rtk_if _ _ _ _ _ _ (by simp [can, tk, canJ]) rfl

set_option maxHeartbeats 1000000 in
theorem rtakes1 (s bin n : Int) (w : World) (hx : 0 ≤ n ∧ n ≤ 18446744073709551615) (h0 : -9223372036854775808 ≤ s) (h1 : s ≤ 9223372036854775807) :
    Calls Try.prog 52 #[.agg #[.int .i64 1, .int .i64 bin, .int .u64 n], .int .i64 s] w fun e w' => e = .returned (.int .i64 (rtk s ⟨1, bin, n⟩)) ∧ Below w.heap.size w w' := by
  obtain ⟨n0, n1⟩ := hx
  go_enter Try.func52, Try.ntmps52
  go_wp2
  all_goals
    go_ret
    refine ⟨congrArg (fun b => Ending.returned (Value.int .i64 b)) ?_, (Below.refl _ _).alloc (Nat.le_refl _) _⟩
    rw [rtk1]
    try simp only [beq_iff_eq, bne_iff_ne, beq_eq_false_iff_ne, bne_eq_false_iff_eq, ne_eq] at *
    first | (rw [if_pos (by omega)]; rfl) | (rw [if_neg (by omega)])

set_option maxHeartbeats 1000000 in
theorem rtakes2 (s bin n : Int) (w : World) (hx : 0 ≤ n ∧ n ≤ 18446744073709551615) (h0 : -9223372036854775808 ≤ s) (h1 : s ≤ 9223372036854775807) :
    Calls Try.prog 52 #[.agg #[.int .i64 2, .int .i64 bin, .int .u64 n], .int .i64 s] w fun e w' => e = .returned (.int .i64 (rtk s ⟨2, bin, n⟩)) ∧ Below w.heap.size w w' := by
  obtain ⟨n0, n1⟩ := hx
  go_enter Try.func52, Try.ntmps52
  go_wp2
  all_goals
    go_ret
    refine ⟨congrArg (fun b => Ending.returned (Value.int .i64 b)) ?_, (Below.refl _ _).alloc (Nat.le_refl _) _⟩
    rw [rtk2]
    try simp only [beq_iff_eq, bne_iff_ne, beq_eq_false_iff_ne, bne_eq_false_iff_eq, ne_eq] at *
    first | (rw [if_pos (by omega)]; rfl) | (rw [if_neg (by omega)])

set_option maxHeartbeats 1000000 in
theorem rtakes3 (s bin n : Int) (w : World) (hx : 0 ≤ n ∧ n ≤ 18446744073709551615) (h0 : -9223372036854775808 ≤ s) (h1 : s ≤ 9223372036854775807) :
    Calls Try.prog 52 #[.agg #[.int .i64 3, .int .i64 bin, .int .u64 n], .int .i64 s] w fun e w' => e = .returned (.int .i64 (rtk s ⟨3, bin, n⟩)) ∧ Below w.heap.size w w' := by
  obtain ⟨n0, n1⟩ := hx
  go_enter Try.func52, Try.ntmps52
  go_wp2
  all_goals
    go_ret
    refine ⟨congrArg (fun b => Ending.returned (Value.int .i64 b)) ?_, (Below.refl _ _).alloc (Nat.le_refl _) _⟩
    rw [rtk3]
    try simp only [beq_iff_eq, bne_iff_ne, beq_eq_false_iff_ne, bne_eq_false_iff_eq, ne_eq] at *
    first | (rw [if_pos (by omega)]; rfl) | (rw [if_neg (by omega)])

set_option maxHeartbeats 1000000 in
theorem rtakes4 (s bin n : Int) (w : World) (hx : 0 ≤ n ∧ n ≤ 18446744073709551615) (h0 : -9223372036854775808 ≤ s) (h1 : s ≤ 9223372036854775807) :
    Calls Try.prog 52 #[.agg #[.int .i64 4, .int .i64 bin, .int .u64 n], .int .i64 s] w fun e w' => e = .returned (.int .i64 (rtk s ⟨4, bin, n⟩)) ∧ Below w.heap.size w w' := by
  obtain ⟨n0, n1⟩ := hx
  go_enter Try.func52, Try.ntmps52
  go_wp2
  all_goals
    go_ret
    refine ⟨congrArg (fun b => Ending.returned (Value.int .i64 b)) ?_, (Below.refl _ _).alloc (Nat.le_refl _) _⟩
    rw [rtk4]
    try simp only [beq_iff_eq, bne_iff_ne, beq_eq_false_iff_ne, bne_eq_false_iff_eq, ne_eq] at *
    first | (rw [if_pos (by omega)]; rfl) | (rw [if_neg (by omega)])

set_option maxHeartbeats 1000000 in
theorem rtakes5 (s bin n : Int) (w : World) (hx : 0 ≤ n ∧ n ≤ 18446744073709551615) (h0 : -9223372036854775808 ≤ s) (h1 : s ≤ 9223372036854775807) :
    Calls Try.prog 52 #[.agg #[.int .i64 5, .int .i64 bin, .int .u64 n], .int .i64 s] w fun e w' => e = .returned (.int .i64 (rtk s ⟨5, bin, n⟩)) ∧ Below w.heap.size w w' := by
  obtain ⟨n0, n1⟩ := hx
  go_enter Try.func52, Try.ntmps52
  go_wp2
  all_goals
    go_ret
    refine ⟨congrArg (fun b => Ending.returned (Value.int .i64 b)) ?_, (Below.refl _ _).alloc (Nat.le_refl _) _⟩
    rw [rtk5]
    try simp only [beq_iff_eq, bne_iff_ne, beq_eq_false_iff_ne, bne_eq_false_iff_eq, ne_eq] at *
    first | (rw [if_pos (by omega)]; rfl) | (rw [if_neg (by omega)])

set_option maxHeartbeats 1000000 in
theorem rtakes6 (s bin n : Int) (w : World) (hx : 0 ≤ n ∧ n ≤ 18446744073709551615) (h0 : -9223372036854775808 ≤ s) (h1 : s ≤ 9223372036854775807) :
    Calls Try.prog 52 #[.agg #[.int .i64 6, .int .i64 bin, .int .u64 n], .int .i64 s] w fun e w' => e = .returned (.int .i64 (rtk s ⟨6, bin, n⟩)) ∧ Below w.heap.size w w' := by
  obtain ⟨n0, n1⟩ := hx
  go_enter Try.func52, Try.ntmps52
  go_wp2
  all_goals
    go_ret
    refine ⟨congrArg (fun b => Ending.returned (Value.int .i64 b)) ?_, (Below.refl _ _).alloc (Nat.le_refl _) _⟩
    rw [rtk6]
    try simp only [beq_iff_eq, bne_iff_ne, beq_eq_false_iff_ne, bne_eq_false_iff_eq, ne_eq] at *
    first | (rw [if_pos (by omega)]; rfl) | (rw [if_neg (by omega)])

set_option maxHeartbeats 1000000 in
theorem rtakes7 (s bin n : Int) (w : World) (hx : 0 ≤ n ∧ n ≤ 18446744073709551615) (h0 : -9223372036854775808 ≤ s) (h1 : s ≤ 9223372036854775807) :
    Calls Try.prog 52 #[.agg #[.int .i64 7, .int .i64 bin, .int .u64 n], .int .i64 s] w fun e w' => e = .returned (.int .i64 (rtk s ⟨7, bin, n⟩)) ∧ Below w.heap.size w w' := by
  obtain ⟨n0, n1⟩ := hx
  go_enter Try.func52, Try.ntmps52
  go_wp2
  all_goals
    go_ret
    refine ⟨congrArg (fun b => Ending.returned (Value.int .i64 b)) ?_, (Below.refl _ _).alloc (Nat.le_refl _) _⟩
    rw [rtk7]
    try simp only [beq_iff_eq, bne_iff_ne, beq_eq_false_iff_ne, bne_eq_false_iff_eq, ne_eq] at *
    first | (rw [if_pos (by omega)]; rfl) | (rw [if_neg (by omega)])

set_option maxHeartbeats 1000000 in
theorem rtakes8 (s bin n : Int) (w : World) (hx : 0 ≤ n ∧ n ≤ 18446744073709551615) (h0 : -9223372036854775808 ≤ s) (h1 : s ≤ 9223372036854775807) :
    Calls Try.prog 52 #[.agg #[.int .i64 8, .int .i64 bin, .int .u64 n], .int .i64 s] w fun e w' => e = .returned (.int .i64 (rtk s ⟨8, bin, n⟩)) ∧ Below w.heap.size w w' := by
  obtain ⟨n0, n1⟩ := hx
  go_enter Try.func52, Try.ntmps52
  go_wp2
  all_goals
    go_ret
    refine ⟨congrArg (fun b => Ending.returned (Value.int .i64 b)) ?_, (Below.refl _ _).alloc (Nat.le_refl _) _⟩
    rw [rtk8]
    try simp only [beq_iff_eq, bne_iff_ne, beq_eq_false_iff_ne, bne_eq_false_iff_eq, ne_eq] at *
    first | (rw [if_pos (by omega)]; rfl) | (rw [if_neg (by omega)])

set_option maxHeartbeats 1000000 in
theorem rtakes9 (s bin n : Int) (w : World) (hx : 0 ≤ n ∧ n ≤ 18446744073709551615) (h0 : -9223372036854775808 ≤ s) (h1 : s ≤ 9223372036854775807) :
    Calls Try.prog 52 #[.agg #[.int .i64 9, .int .i64 bin, .int .u64 n], .int .i64 s] w fun e w' => e = .returned (.int .i64 (rtk s ⟨9, bin, n⟩)) ∧ Below w.heap.size w w' := by
  obtain ⟨n0, n1⟩ := hx
  go_enter Try.func52, Try.ntmps52
  go_wp2
  all_goals
    go_ret
    refine ⟨congrArg (fun b => Ending.returned (Value.int .i64 b)) ?_, (Below.refl _ _).alloc (Nat.le_refl _) _⟩
    rw [rtk9]
    try simp only [beq_iff_eq, bne_iff_ne, beq_eq_false_iff_ne, bne_eq_false_iff_eq, ne_eq] at *
    first | (rw [if_pos (by omega)]; rfl) | (rw [if_neg (by omega)])

set_option maxHeartbeats 1000000 in
theorem rtakes10 (s bin n : Int) (w : World) (hx : 0 ≤ n ∧ n ≤ 18446744073709551615) (h0 : -9223372036854775808 ≤ s) (h1 : s ≤ 9223372036854775807) :
    Calls Try.prog 52 #[.agg #[.int .i64 10, .int .i64 bin, .int .u64 n], .int .i64 s] w fun e w' => e = .returned (.int .i64 (rtk s ⟨10, bin, n⟩)) ∧ Below w.heap.size w w' := by
  obtain ⟨n0, n1⟩ := hx
  go_enter Try.func52, Try.ntmps52
  go_wp2
  all_goals
    go_ret
    refine ⟨congrArg (fun b => Ending.returned (Value.int .i64 b)) ?_, (Below.refl _ _).alloc (Nat.le_refl _) _⟩
    rw [rtk10]
    try simp only [beq_iff_eq, bne_iff_ne, beq_eq_false_iff_ne, bne_eq_false_iff_eq, ne_eq] at *
    first | (rw [if_pos (by omega)]; rfl) | (rw [if_neg (by omega)])

set_option maxHeartbeats 1000000 in
theorem rtakes_out (s op bin n : Int) (w : World) (h : op < 1 ∨ 10 < op) (hx : 0 ≤ n ∧ n ≤ 18446744073709551615) (h0 : -9223372036854775808 ≤ s) (h1 : s ≤ 9223372036854775807) :
    Calls Try.prog 52 #[.agg #[.int .i64 op, .int .i64 bin, .int .u64 n], .int .i64 s] w fun e w' => e = .returned (.int .i64 (rtk s ⟨op, bin, n⟩)) ∧ Below w.heap.size w w' := by
  rw [rtk_none s op bin n h]
  rcases h with h | h
  · have g1 : op < 4 := by omega
    have g2 : op < 8 := by omega
    go_enter Try.func52, Try.ntmps52
    go_wp2
    all_goals
      go_ret
      exact ⟨rfl, (Below.refl _ _).alloc (Nat.le_refl _) _⟩
  · have g1 : 1 ≤ op := by omega
    have g2 : 3 < op := by omega
    have g3 : 4 ≤ op := by omega
    have g4 : 7 < op := by omega
    have g5 : 8 ≤ op := by omega
    go_enter Try.func52, Try.ntmps52
    go_wp2
    all_goals
      go_ret
      exact ⟨rfl, (Below.refl _ _).alloc (Nat.le_refl _) _⟩

theorem rtakes_any (s : Int) (x : Itm) (w : World) (hx : x.ok) (h0 : -9223372036854775808 ≤ s) (h1 : s ≤ 9223372036854775807) :
    Calls Try.prog 52 #[.agg #[.int .i64 x.op, .int .i64 x.bin, .int .u64 x.n], .int .i64 s] w fun e w' => e = .returned (.int .i64 (rtk s x)) ∧ Below w.heap.size w w' := by
  obtain ⟨op, bin, n⟩ := x
  obtain ⟨_, _, _, _, n0, n1⟩ := hx
  by_cases h : op < 1 ∨ 10 < op
  · exact rtakes_out s op bin n w h ⟨n0, n1⟩ h0 h1
  · have : op = 1 ∨ op = 2 ∨ op = 3 ∨ op = 4 ∨ op = 5 ∨ op = 6 ∨ op = 7 ∨ op = 8 ∨ op = 9 ∨ op = 10 := by omega
    rcases this with rfl | rfl | rfl | rfl | rfl | rfl | rfl | rfl | rfl | rfl
    · exact rtakes1 s bin n w ⟨n0, n1⟩ h0 h1
    · exact rtakes2 s bin n w ⟨n0, n1⟩ h0 h1
    · exact rtakes3 s bin n w ⟨n0, n1⟩ h0 h1
    · exact rtakes4 s bin n w ⟨n0, n1⟩ h0 h1
    · exact rtakes5 s bin n w ⟨n0, n1⟩ h0 h1
    · exact rtakes6 s bin n w ⟨n0, n1⟩ h0 h1
    · exact rtakes7 s bin n w ⟨n0, n1⟩ h0 h1
    · exact rtakes8 s bin n w ⟨n0, n1⟩ h0 h1
    · exact rtakes9 s bin n w ⟨n0, n1⟩ h0 h1
    · exact rtakes10 s bin n w ⟨n0, n1⟩ h0 h1
end Go.Proofs.Ytjjfhjelkioehaa
