/- RTakes, Ins, RGood, Spec, Sm1 -/
import Derived.Test.YtdpbapoahfggeaaDoorM01
/- Contract of the document's Takes. -/
namespace Go.Proofs.YtdpbapoahfggeaaDoor
open Go.ChangeShapes Go.WideShapes Go.ChangeAt Go.RowKit
set_option linter.unusedVariables false
set_option linter.unusedSimpArgs false

/-- What the document's Takes answers. -/
def rtk (s : Int) (x : Itm) : Int := if can s x then tk x.op else -1

theorem rtk_none (s : Int) (op bin n : Int) (h : op < 1 ∨ 10 < op) : rtk s ⟨op, bin, n⟩ = -1 := by
  have e : can s ⟨op, bin, n⟩ = false := by
    unfold can tk
    rw [if_neg (by simp; omega), if_neg (by simp; omega), if_neg (by simp; omega)]
    have h4 : (op == 4) = false := by simp; omega
    have h5 : (op == 5) = false := by simp; omega
    have h6 : (op == 6) = false := by simp; omega
    have h7 : (op == 7) = false := by simp; omega
    have h8 : (op == 8) = false := by simp; omega
    have h9 : (op == 9) = false := by simp; omega
    have h10 : (op == 10) = false := by simp; omega
    simp [h4, h5, h6, h7, h8, h9, h10]
  unfold rtk
  rw [e]; rfl

theorem rtk_if (s op bin n : Int) (t : Nat) (P : Prop) [Decidable P] (hc : can s ⟨op, bin, n⟩ = true ↔ P) (ht : tk op = t) : rtk s ⟨op, bin, n⟩ = if P then (t : Int) else -1 := by
  unfold rtk
  by_cases h : P
  · rw [if_pos h, if_pos (hc.2 h)]; show (tk op : Int) = t; rw [ht]
  · rw [if_neg h, if_neg (fun c => h (hc.1 c))]

theorem rtk1 (s bin n : Int) : rtk s ⟨1, bin, n⟩ = if bin = 0 then ((0 : Nat) : Int) else -1 := rtk_if _ _ _ _ _ _ (by simp [can]) rfl
theorem rtk2 (s bin n : Int) : rtk s ⟨2, bin, n⟩ = if bin = 0 ∧ 0 < s ∧ n < s then ((0 : Nat) : Int) else -1 := rtk_if _ _ _ _ _ _ (by simp [can]) rfl
theorem rtk3 (s bin n : Int) : rtk s ⟨3, bin, n⟩ = if bin = 0 ∧ n < 16 then ((0 : Nat) : Int) else -1 := rtk_if _ _ _ _ _ _ (by simp [can]) rfl
theorem rtk4 (s bin n : Int) : rtk s ⟨4, bin, n⟩ = if bin = 0 ∧ n = 0 then ((1 : Nat) : Int) else -1 := rtk_if _ _ _ _ _ _ (by simp [can, tk]) rfl
theorem rtk5 (s bin n : Int) : rtk s ⟨5, bin, n⟩ = if bin = 0 ∧ n = 0 then ((1 : Nat) : Int) else -1 := rtk_if _ _ _ _ _ _ (by simp [can, tk]) rfl
theorem rtk6 (s bin n : Int) : rtk s ⟨6, bin, n⟩ = if bin = 0 ∧ n = 0 then ((1 : Nat) : Int) else -1 := rtk_if _ _ _ _ _ _ (by simp [can, tk]) rfl
theorem rtk7 (s bin n : Int) : rtk s ⟨7, bin, n⟩ = if bin = 0 ∧ n = 0 then ((1 : Nat) : Int) else -1 := rtk_if _ _ _ _ _ _ (by simp [can, tk]) rfl
theorem rtk8 (s bin n : Int) : rtk s ⟨8, bin, n⟩ = if n = 0 ∧ 0 ≤ bin ∧ bin ≤ 8 then ((2 : Nat) : Int) else -1 := rtk_if _ _ _ _ _ _ (by simp [can, tk, canJ]) rfl
theorem rtk9 (s bin n : Int) : rtk s ⟨9, bin, n⟩ = if n = 0 ∧ 0 ≤ bin ∧ bin ≤ 8 ∧ bin ≠ 4 then ((2 : Nat) : Int) else -1 := rtk_if _ _ _ _ _ _ (by simp [can, tk, canJ]) rfl
theorem rtk10 (s bin n : Int) : rtk s ⟨10, bin, n⟩ = if n = 0 ∧ (bin = 5 ∨ bin = 6) then ((2 : Nat) : Int) else -1 := rtk_if _ _ _ _ _ _ (by simp [can, tk, canJ]) rfl

set_option maxHeartbeats 1000000 in
theorem rtakes1 (s bin n : Int) (w : World) (hx : 0 ≤ n ∧ n ≤ 18446744073709551615) (h0 : -9223372036854775808 ≤ s) (h1 : s ≤ 9223372036854775807) :
    Calls Tryd.prog 42 #[.agg #[.int .i64 1, .int .i64 bin, .int .u64 n], .int .i64 s] w fun e w' => e = .returned (.int .i64 (rtk s ⟨1, bin, n⟩)) ∧ Below w.heap.size w w' := by
  obtain ⟨n0, n1⟩ := hx
  go_enter Tryd.func42, Tryd.ntmps42
  go_wp2
  all_goals
    go_ret
    refine ⟨congrArg (fun b => Ending.returned (Value.int .i64 b)) ?_, (Below.refl _ _).alloc (Nat.le_refl _) _⟩
    rw [rtk1]
    try simp only [beq_iff_eq, bne_iff_ne, beq_eq_false_iff_ne, bne_eq_false_iff_eq, ne_eq] at *
    first | (rw [if_pos (by omega)]; rfl) | (rw [if_neg (by omega)])

set_option maxHeartbeats 1000000 in
theorem rtakes2 (s bin n : Int) (w : World) (hx : 0 ≤ n ∧ n ≤ 18446744073709551615) (h0 : -9223372036854775808 ≤ s) (h1 : s ≤ 9223372036854775807) :
    Calls Tryd.prog 42 #[.agg #[.int .i64 2, .int .i64 bin, .int .u64 n], .int .i64 s] w fun e w' => e = .returned (.int .i64 (rtk s ⟨2, bin, n⟩)) ∧ Below w.heap.size w w' := by
  obtain ⟨n0, n1⟩ := hx
  go_enter Tryd.func42, Tryd.ntmps42
  go_wp2
  all_goals
    go_ret
    refine ⟨congrArg (fun b => Ending.returned (Value.int .i64 b)) ?_, (Below.refl _ _).alloc (Nat.le_refl _) _⟩
    rw [rtk2]
    try simp only [beq_iff_eq, bne_iff_ne, beq_eq_false_iff_ne, bne_eq_false_iff_eq, ne_eq] at *
    first | (rw [if_pos (by omega)]; rfl) | (rw [if_neg (by omega)])

set_option maxHeartbeats 1000000 in
theorem rtakes3 (s bin n : Int) (w : World) (hx : 0 ≤ n ∧ n ≤ 18446744073709551615) (h0 : -9223372036854775808 ≤ s) (h1 : s ≤ 9223372036854775807) :
    Calls Tryd.prog 42 #[.agg #[.int .i64 3, .int .i64 bin, .int .u64 n], .int .i64 s] w fun e w' => e = .returned (.int .i64 (rtk s ⟨3, bin, n⟩)) ∧ Below w.heap.size w w' := by
  obtain ⟨n0, n1⟩ := hx
  go_enter Tryd.func42, Tryd.ntmps42
  go_wp2
  all_goals
    go_ret
    refine ⟨congrArg (fun b => Ending.returned (Value.int .i64 b)) ?_, (Below.refl _ _).alloc (Nat.le_refl _) _⟩
    rw [rtk3]
    try simp only [beq_iff_eq, bne_iff_ne, beq_eq_false_iff_ne, bne_eq_false_iff_eq, ne_eq] at *
    first | (rw [if_pos (by omega)]; rfl) | (rw [if_neg (by omega)])

set_option maxHeartbeats 1000000 in
theorem rtakes4 (s bin n : Int) (w : World) (hx : 0 ≤ n ∧ n ≤ 18446744073709551615) (h0 : -9223372036854775808 ≤ s) (h1 : s ≤ 9223372036854775807) :
    Calls Tryd.prog 42 #[.agg #[.int .i64 4, .int .i64 bin, .int .u64 n], .int .i64 s] w fun e w' => e = .returned (.int .i64 (rtk s ⟨4, bin, n⟩)) ∧ Below w.heap.size w w' := by
  obtain ⟨n0, n1⟩ := hx
  go_enter Tryd.func42, Tryd.ntmps42
  go_wp2
  all_goals
    go_ret
    refine ⟨congrArg (fun b => Ending.returned (Value.int .i64 b)) ?_, (Below.refl _ _).alloc (Nat.le_refl _) _⟩
    rw [rtk4]
    try simp only [beq_iff_eq, bne_iff_ne, beq_eq_false_iff_ne, bne_eq_false_iff_eq, ne_eq] at *
    first | (rw [if_pos (by omega)]; rfl) | (rw [if_neg (by omega)])

set_option maxHeartbeats 1000000 in
theorem rtakes5 (s bin n : Int) (w : World) (hx : 0 ≤ n ∧ n ≤ 18446744073709551615) (h0 : -9223372036854775808 ≤ s) (h1 : s ≤ 9223372036854775807) :
    Calls Tryd.prog 42 #[.agg #[.int .i64 5, .int .i64 bin, .int .u64 n], .int .i64 s] w fun e w' => e = .returned (.int .i64 (rtk s ⟨5, bin, n⟩)) ∧ Below w.heap.size w w' := by
  obtain ⟨n0, n1⟩ := hx
  go_enter Tryd.func42, Tryd.ntmps42
  go_wp2
  all_goals
    go_ret
    refine ⟨congrArg (fun b => Ending.returned (Value.int .i64 b)) ?_, (Below.refl _ _).alloc (Nat.le_refl _) _⟩
    rw [rtk5]
    try simp only [beq_iff_eq, bne_iff_ne, beq_eq_false_iff_ne, bne_eq_false_iff_eq, ne_eq] at *
    first | (rw [if_pos (by omega)]; rfl) | (rw [if_neg (by omega)])

set_option maxHeartbeats 1000000 in
theorem rtakes6 (s bin n : Int) (w : World) (hx : 0 ≤ n ∧ n ≤ 18446744073709551615) (h0 : -9223372036854775808 ≤ s) (h1 : s ≤ 9223372036854775807) :
    Calls Tryd.prog 42 #[.agg #[.int .i64 6, .int .i64 bin, .int .u64 n], .int .i64 s] w fun e w' => e = .returned (.int .i64 (rtk s ⟨6, bin, n⟩)) ∧ Below w.heap.size w w' := by
  obtain ⟨n0, n1⟩ := hx
  go_enter Tryd.func42, Tryd.ntmps42
  go_wp2
  all_goals
    go_ret
    refine ⟨congrArg (fun b => Ending.returned (Value.int .i64 b)) ?_, (Below.refl _ _).alloc (Nat.le_refl _) _⟩
    rw [rtk6]
    try simp only [beq_iff_eq, bne_iff_ne, beq_eq_false_iff_ne, bne_eq_false_iff_eq, ne_eq] at *
    first | (rw [if_pos (by omega)]; rfl) | (rw [if_neg (by omega)])

set_option maxHeartbeats 1000000 in
theorem rtakes7 (s bin n : Int) (w : World) (hx : 0 ≤ n ∧ n ≤ 18446744073709551615) (h0 : -9223372036854775808 ≤ s) (h1 : s ≤ 9223372036854775807) :
    Calls Tryd.prog 42 #[.agg #[.int .i64 7, .int .i64 bin, .int .u64 n], .int .i64 s] w fun e w' => e = .returned (.int .i64 (rtk s ⟨7, bin, n⟩)) ∧ Below w.heap.size w w' := by
  obtain ⟨n0, n1⟩ := hx
  go_enter Tryd.func42, Tryd.ntmps42
  go_wp2
  all_goals
    go_ret
    refine ⟨congrArg (fun b => Ending.returned (Value.int .i64 b)) ?_, (Below.refl _ _).alloc (Nat.le_refl _) _⟩
    rw [rtk7]
    try simp only [beq_iff_eq, bne_iff_ne, beq_eq_false_iff_ne, bne_eq_false_iff_eq, ne_eq] at *
    first | (rw [if_pos (by omega)]; rfl) | (rw [if_neg (by omega)])

set_option maxHeartbeats 1000000 in
theorem rtakes8 (s bin n : Int) (w : World) (hx : 0 ≤ n ∧ n ≤ 18446744073709551615) (h0 : -9223372036854775808 ≤ s) (h1 : s ≤ 9223372036854775807) :
    Calls Tryd.prog 42 #[.agg #[.int .i64 8, .int .i64 bin, .int .u64 n], .int .i64 s] w fun e w' => e = .returned (.int .i64 (rtk s ⟨8, bin, n⟩)) ∧ Below w.heap.size w w' := by
  obtain ⟨n0, n1⟩ := hx
  go_enter Tryd.func42, Tryd.ntmps42
  go_wp2
  all_goals
    go_ret
    refine ⟨congrArg (fun b => Ending.returned (Value.int .i64 b)) ?_, (Below.refl _ _).alloc (Nat.le_refl _) _⟩
    rw [rtk8]
    try simp only [beq_iff_eq, bne_iff_ne, beq_eq_false_iff_ne, bne_eq_false_iff_eq, ne_eq] at *
    first | (rw [if_pos (by omega)]; rfl) | (rw [if_neg (by omega)])

set_option maxHeartbeats 1000000 in
theorem rtakes9 (s bin n : Int) (w : World) (hx : 0 ≤ n ∧ n ≤ 18446744073709551615) (h0 : -9223372036854775808 ≤ s) (h1 : s ≤ 9223372036854775807) :
    Calls Tryd.prog 42 #[.agg #[.int .i64 9, .int .i64 bin, .int .u64 n], .int .i64 s] w fun e w' => e = .returned (.int .i64 (rtk s ⟨9, bin, n⟩)) ∧ Below w.heap.size w w' := by
  obtain ⟨n0, n1⟩ := hx
  go_enter Tryd.func42, Tryd.ntmps42
  go_wp2
  all_goals
    go_ret
    refine ⟨congrArg (fun b => Ending.returned (Value.int .i64 b)) ?_, (Below.refl _ _).alloc (Nat.le_refl _) _⟩
    rw [rtk9]
    try simp only [beq_iff_eq, bne_iff_ne, beq_eq_false_iff_ne, bne_eq_false_iff_eq, ne_eq] at *
    first | (rw [if_pos (by omega)]; rfl) | (rw [if_neg (by omega)])

set_option maxHeartbeats 1000000 in
theorem rtakes10 (s bin n : Int) (w : World) (hx : 0 ≤ n ∧ n ≤ 18446744073709551615) (h0 : -9223372036854775808 ≤ s) (h1 : s ≤ 9223372036854775807) :
    Calls Tryd.prog 42 #[.agg #[.int .i64 10, .int .i64 bin, .int .u64 n], .int .i64 s] w fun e w' => e = .returned (.int .i64 (rtk s ⟨10, bin, n⟩)) ∧ Below w.heap.size w w' := by
  obtain ⟨n0, n1⟩ := hx
  go_enter Tryd.func42, Tryd.ntmps42
  go_wp2
  all_goals
    go_ret
    refine ⟨congrArg (fun b => Ending.returned (Value.int .i64 b)) ?_, (Below.refl _ _).alloc (Nat.le_refl _) _⟩
    rw [rtk10]
    try simp only [beq_iff_eq, bne_iff_ne, beq_eq_false_iff_ne, bne_eq_false_iff_eq, ne_eq] at *
    first | (rw [if_pos (by omega)]; rfl) | (rw [if_neg (by omega)])

set_option maxHeartbeats 1000000 in
theorem rtakes_out (s op bin n : Int) (w : World) (h : op < 1 ∨ 10 < op) (hx : 0 ≤ n ∧ n ≤ 18446744073709551615) (h0 : -9223372036854775808 ≤ s) (h1 : s ≤ 9223372036854775807) :
    Calls Tryd.prog 42 #[.agg #[.int .i64 op, .int .i64 bin, .int .u64 n], .int .i64 s] w fun e w' => e = .returned (.int .i64 (rtk s ⟨op, bin, n⟩)) ∧ Below w.heap.size w w' := by
  rw [rtk_none s op bin n h]
  rcases h with h | h
  · have g1 : op < 4 := by omega
    have g2 : op < 8 := by omega
    go_enter Tryd.func42, Tryd.ntmps42
    go_wp2
    all_goals
      go_ret
      exact ⟨rfl, (Below.refl _ _).alloc (Nat.le_refl _) _⟩
  · have g1 : 1 ≤ op := by omega
    have g2 : 3 < op := by omega
    have g3 : 4 ≤ op := by omega
    have g4 : 7 < op := by omega
    have g5 : 8 ≤ op := by omega
    go_enter Tryd.func42, Tryd.ntmps42
    go_wp2
    all_goals
      go_ret
      exact ⟨rfl, (Below.refl _ _).alloc (Nat.le_refl _) _⟩

theorem rtakes_any (s : Int) (x : Itm) (w : World) (hx : x.ok) (h0 : -9223372036854775808 ≤ s) (h1 : s ≤ 9223372036854775807) :
    Calls Tryd.prog 42 #[.agg #[.int .i64 x.op, .int .i64 x.bin, .int .u64 x.n], .int .i64 s] w fun e w' => e = .returned (.int .i64 (rtk s x)) ∧ Below w.heap.size w w' := by
  obtain ⟨op, bin, n⟩ := x
  obtain ⟨_, _, _, _, n0, n1⟩ := hx
  by_cases h : op < 1 ∨ 10 < op
  · exact rtakes_out s op bin n w h ⟨n0, n1⟩ h0 h1
  · have : op = 1 ∨ op = 2 ∨ op = 3 ∨ op = 4 ∨ op = 5 ∨ op = 6 ∨ op = 7 ∨ op = 8 ∨ op = 9 ∨ op = 10 := by omega
    rcases this with rfl | rfl | rfl | rfl | rfl | rfl | rfl | rfl | rfl | rfl
    · exact rtakes1 s bin n w ⟨n0, n1⟩ h0 h1
    · exact rtakes2 s bin n w ⟨n0, n1⟩ h0 h1
    · exact rtakes3 s bin n w ⟨n0, n1⟩ h0 h1
    · exact rtakes4 s bin n w ⟨n0, n1⟩ h0 h1
    · exact rtakes5 s bin n w ⟨n0, n1⟩ h0 h1
    · exact rtakes6 s bin n w ⟨n0, n1⟩ h0 h1
    · exact rtakes7 s bin n w ⟨n0, n1⟩ h0 h1
    · exact rtakes8 s bin n w ⟨n0, n1⟩ h0 h1
    · exact rtakes9 s bin n w ⟨n0, n1⟩ h0 h1
    · exact rtakes10 s bin n w ⟨n0, n1⟩ h0 h1
end Go.Proofs.YtdpbapoahfggeaaDoor
/- Contracts of code's Inside and the document's Inside: the first section in which a place stands. -/
namespace Go.Proofs.YtdpbapoahfggeaaDoor
open Go.ChangeShapes Go.WideShapes Go.ChangeAt Go.RowKit
set_option linter.unusedVariables false
set_option linter.unusedSimpArgs false

def hitS (th pl : Int) (s : Sec) : Bool := s.th == th && (decide (s.fr < pl) && decide (pl ≤ s.to))
def insideF (th pl : Int) : List Sec → Int → Int
  | [], _ => -1
  | s :: l, i => if hitS th pl s then i else insideF th pl l (i + 1)
def inside (secs : List Sec) (th pl : Int) : Int := insideF th pl secs 0

theorem insideF_yes {th pl : Int} {s : Sec} (l : List Sec) (i : Int) (h : hitS th pl s = true) : insideF th pl (s :: l) i = i := by unfold insideF; rw [if_pos h]
theorem insideF_no {th pl : Int} {s : Sec} (l : List Sec) (i : Int) (h : hitS th pl s = false) : insideF th pl (s :: l) i = insideF th pl l (i + 1) := by
  show (if _ then _ else _) = _
  rw [if_neg (by rw [h]; simp)]
theorem retI {k : IntKind} {a b : Int} (h : a = b) : Ending.returned (.int k a) = .returned (.int k b) := by rw [h]
theorem secs_at {w : World} {v : Value} {l : List Sec} (h : Secs w v l) : ∃ a cap, v = .slice a l.length cap ∧ ∀ j, j < l.length → ∃ s b off, l.drop j = s :: l.drop (j + 1) ∧ l[j]? = some s ∧ a = some ⟨b, off, none⟩ ∧ b < w.heap.size ∧ w.cell? ⟨b, off + j * 3, none⟩ = some (.int .i64 s.th) ∧ w.cell? ⟨b, off + j * 3 + 1, none⟩ = some (.int .i64 s.fr) ∧ w.cell? ⟨b, off + j * 3 + 2, none⟩ = some (.int .i64 s.to) ∧ s.okW w := by
  obtain ⟨a, cap, h1, h2, h3, h4, h5, h6⟩ := h
  refine ⟨a, cap, h1, fun j hj => ?_⟩
  have hs : l[j]? = some l[j] := by simp [hj]
  obtain ⟨b, off, e, hlt, hr, ho⟩ := h6 j _ hs
  exact ⟨_, b, off, List.drop_eq_getElem_cons hj, hs, e, hlt, hr 0 _ rfl, hr 1 _ rfl, hr 2 _ rfl, ho⟩

set_option maxHeartbeats 400000 in
theorem in1_any (s : Sec) (th pl : Int) (b1 b2 : Nat) (w : World) (h1 : w.cell? ⟨b1, 0, none⟩ = some (.int .i64 th)) (h2 : w.cell? ⟨b2, 0, none⟩ = some (.int .i64 pl)) :
    Calls Tryd.prog 87 #[.agg #[.int .i64 s.th, .int .i64 s.fr, .int .i64 s.to], .pointer (some ⟨b1, 0, none⟩), .pointer (some ⟨b2, 0, none⟩)] w fun e w' => e = .returned (.bool (hitS th pl s)) ∧ Below w.heap.size w w' := by
  have g1 : b1 < w.heap.size := World.block_lt_of_cell? w _ h1
  have g2 : b2 < w.heap.size := World.block_lt_of_cell? w _ h2
  go_enter Tryd.func87, Tryd.ntmps87
  go_wp2
  all_goals
    go_ret
    refine ⟨retB ?_, (Below.refl _ _).alloc (Nat.le_refl _) _⟩
    first | (simp [hitS, *]; done) | (simp [hitS, *]; intros; omega)

set_option maxRecDepth 100000 in
set_option maxHeartbeats 1000000 in
theorem indexIn_any (v : Value) (l : List Sec) (th pl : Int) (b1 b2 : Nat) (w : World) (hl : Secs w v l) (hn : l.length ≤ 1000000) (h1 : w.cell? ⟨b1, 0, none⟩ = some (.int .i64 th)) (h2 : w.cell? ⟨b2, 0, none⟩ = some (.int .i64 pl)) :
    Calls Tryd.prog 66 #[v, .func (.func 87) #[] #[.pointer (some ⟨b1, 0, none⟩), .pointer (some ⟨b2, 0, none⟩)]] w fun e w' => e = .returned (.int .i64 (inside l th pl)) ∧ Below w.heap.size w w' := by
  obtain ⟨a, cap, rfl, hr⟩ := secs_at hl
  have HR := hid hr
  have g1 : b1 < w.heap.size := World.block_lt_of_cell? w _ h1
  have g2 : b2 < w.heap.size := World.block_lt_of_cell? w _ h2
  have C := hid (fun (s : Sec) W (h : Below w.heap.size w W) => in1_any s th pl b1 b2 W (by rw [h.cell (p := ⟨b1, 0, none⟩) g1]; exact h1) (by rw [h.cell (p := ⟨b2, 0, none⟩) g2]; exact h2))
  clear hr hl h1 h2 g1 g2
  generalize hln : l.length = n at *
  replace hln := hid hln
  go_enter Tryd.func66, Tryd.ntmps66
  go_wp2_with fail
  go_loopw [8] (fun t wr => ∃ j : Nat, t = .int .i64 j ∧ j ≤ n ∧ Hid (insideF th pl (l.drop j) j = inside l th pl) ∧ Hid (Below w.heap.size w wr)) (fun t _ => n - (intOf t).toNat)
  case atStart => exact ⟨0, rfl, by omega, rfl, Below.refl _ _⟩
  case round =>
    obtain ⟨j, rfl, hj, E, B⟩ := hrel
    by_cases hjn : j < n
    · obtain ⟨s, b, off, hd, hs, rfl, hb, c0, c1, c2, ok⟩ := HR.out j hjn
      rw [← B.out.cell hb] at c0 c1 c2
      rw [hd] at E
      clear hd hs ok HR
      have D := hid (C.out s wr B.out)
      clear C
      cases hh : hitS th pl s
      · have E2 := hid (E.out)
        rw [insideF_no _ _ hh] at E2
        rw [hh] at D
        clear hh E
        go_wp2_with (go_at_call 87; refine Calls.mono D.out ?_; rintro e w' ⟨rfl, hb'⟩)
        go_roundw
        case rel => exact ⟨j + 1, by go_num, by omega, E2, bover B.out hb'⟩
        case measure => simp [intOf]; omega
      · have E2 := hid (E.out)
        rw [insideF_yes _ _ hh] at E2
        rw [hh] at D
        clear hh E
        go_wp2_with (go_at_call 87; refine Calls.mono D.out ?_; rintro e w' ⟨rfl, hb'⟩)
        go_ret
        exact ⟨retI E2.out, bover B.out hb'⟩
    · have E2 : Hid (-1 = inside l th pl) := hid (by rw [← E.out, List.drop_of_length_le (by rw [hln.out]; omega)]; rfl)
      clear E HR C
      go_wp2
      go_ret
      exact ⟨retI E2.out, B.out⟩

theorem new0 (w : World) (v : Value) (t : TypeId) : (w.alloc (.cells #[v] t)).cell? ⟨w.heap.size, 0, none⟩ = some v := new_cell _ _ _ _ _ rfl

set_option maxRecDepth 100000 in
set_option maxHeartbeats 1000000 in
theorem inside_any (rv gv tv ev cv : Value) (l : List Sec) (th pl : Int) (w : World) (hc : Secs w cv l) (hn : l.length ≤ 1000000) :
    Calls Tryd.prog 75 #[.agg #[rv, gv, tv, ev, cv], .int .i64 th, .int .i64 pl] w fun e w' => e = .returned (.int .i64 (inside l th pl)) ∧ Below w.heap.size w w' := by
  have B1 := (Below.refl w.heap.size w).alloc (Nat.le_refl _) (.cells #[rv, gv, tv, ev, cv] 41)
  have B2 := B1.alloc B1.size (.cells #[.int .i64 th] 3)
  have B3 := B2.alloc B2.size (.cells #[.int .i64 pl] 3)
  have K := (Below.refl _ _).alloc (Nat.le_refl ((w.alloc (.cells #[rv, gv, tv, ev, cv] 41)).alloc (.cells #[.int .i64 th] 3)).heap.size) (.cells #[.int .i64 pl] 3)
  have C := indexIn_any cv l th pl (w.heap.size + 1) (w.heap.size + 1 + 1) (((w.alloc (.cells #[rv, gv, tv, ev, cv] 41)).alloc (.cells #[.int .i64 th] 3)).alloc (.cells #[.int .i64 pl] 3)) (Secs.kept hc B3) hn
    (by rw [K.cell (by simp)]; have := new0 (w.alloc (.cells #[rv, gv, tv, ev, cv] 41)) (.int .i64 th) 3; simp only [World.size_alloc] at this; exact this)
    (by have := new0 ((w.alloc (.cells #[rv, gv, tv, ev, cv] 41)).alloc (.cells #[.int .i64 th] 3)) (.int .i64 pl) 3; simp only [World.size_alloc] at this; exact this)
  replace C := hid C
  replace B3 := hid B3
  clear hc B1 B2 K
  go_enter Tryd.func75, Tryd.ntmps75
  go_wp2_with fail
  refine Calls.mono C.out ?_
  rintro e w' ⟨rfl, hb⟩
  go_wp2
  go_ret
  exact ⟨rfl, bover B3.out hb⟩

set_option maxRecDepth 100000 in
set_option maxHeartbeats 1000000 in
theorem rinside_any (rv gv tv ev cv : Value) (l : List Sec) (th pl : Int) (w : World) (hc : Secs w cv l) (hn : l.length ≤ 1000000) :
    Calls Tryd.prog 32 #[.agg #[rv, gv, tv, ev, cv], .int .i64 th, .int .i64 pl] w fun e w' => e = .returned (.int .i64 (inside l th pl)) ∧ Below w.heap.size w w' := by
  obtain ⟨a, cap, rfl, hr⟩ := secs_at hc
  have HR := hid hr
  have B1 := hid ((Below.refl w.heap.size w).alloc (Nat.le_refl _) (.cells #[rv, gv, tv, ev, .slice a l.length cap] 41))
  clear hr hc
  generalize hln : l.length = n at *
  replace hln := hid hln
  go_enter Tryd.func32, Tryd.ntmps32
  go_wp2_with fail
  go_loopw [12] (fun t wr => ∃ j : Nat, t = .int .i64 j ∧ j ≤ n ∧ Hid (insideF th pl (l.drop j) j = inside l th pl) ∧ Hid (Below w.heap.size w wr)) (fun t _ => n - (intOf t).toNat)
  case atStart => exact ⟨0, rfl, by omega, rfl, B1⟩
  case round =>
    obtain ⟨j, rfl, hj, E, B⟩ := hrel
    by_cases hjn : j < n
    · obtain ⟨s, b, off, hd, hs, rfl, hb, c0, c1, c2, ok⟩ := HR.out j hjn
      rw [← B.out.cell hb] at c0 c1 c2
      rw [hd] at E
      have B2 := hid (B.out.alloc B.out.size (.cells #[.int .i64 s.th, .int .i64 s.fr, .int .i64 s.to] 63))
      clear hd hs ok HR B1 B
      cases h1 : (s.th == th)
      · have E2 := hid (E.out)
        rw [insideF_no _ _ (by unfold hitS; rw [h1]; rfl)] at E2
        clear E
        go_wp2
        go_roundw
        case rel => exact ⟨j + 1, by go_num, by omega, E2, B2⟩
        case measure => simp [intOf]; omega
      · by_cases h2 : s.fr < pl
        · by_cases h3 : pl ≤ s.to
          · have E2 := hid (E.out)
            rw [insideF_yes _ _ (by unfold hitS; rw [h1, decide_eq_true h2, decide_eq_true h3]; rfl)] at E2
            clear E
            go_wp2
            go_ret
            exact ⟨retI E2.out, B2.out⟩
          · have E2 := hid (E.out)
            rw [insideF_no _ _ (by unfold hitS; rw [decide_eq_false h3]; simp)] at E2
            have h3' : s.to < pl := by omega
            clear E h3
            go_wp2
            go_roundw
            case rel => exact ⟨j + 1, by go_num, by omega, E2, B2⟩
            case measure => simp [intOf]; omega
        · have E2 := hid (E.out)
          rw [insideF_no _ _ (by unfold hitS; rw [decide_eq_false h2]; simp)] at E2
          have h2' : pl ≤ s.fr := by omega
          clear E h2
          go_wp2
          go_roundw
          case rel => exact ⟨j + 1, by go_num, by omega, E2, B2⟩
          case measure => simp [intOf]; omega
    · have E2 : Hid (-1 = inside l th pl) := hid (by rw [← E.out, List.drop_of_length_le (by rw [hln.out]; omega)]; rfl)
      clear E HR B1
      go_wp2
      go_ret
      exact ⟨retI E2.out, B.out⟩

set_option maxRecDepth 100000 in
set_option maxHeartbeats 1000000 in
theorem section_any (rv gv tv ev cv sv dv mv : Value) (l : List Sec) (th pl : Int) (w : World) (hc : Secs w cv l) (hn : l.length ≤ 1000000) :
    Calls Tryd.prog 72 #[.agg #[rv, gv, tv, ev, cv, .int .i64 th, sv, dv, mv], .int .i64 pl] w fun e w' => e = .returned (.int .i64 (inside l th pl)) ∧ Below w.heap.size w w' := by
  have B1 := (Below.refl w.heap.size w).alloc (Nat.le_refl _) (.cells #[rv, gv, tv, ev, cv, .int .i64 th, sv, dv, mv] 110)
  have C := hid (inside_any rv gv tv ev cv l th pl (w.alloc (.cells #[rv, gv, tv, ev, cv, .int .i64 th, sv, dv, mv] 110)) (Secs.kept hc B1) hn)
  replace B1 := hid B1
  clear hc
  go_enter Tryd.func72, Tryd.ntmps72
  go_wp2_with fail
  refine Calls.mono C.out ?_
  rintro e w' ⟨rfl, hb⟩
  go_wp2
  go_ret
  exact ⟨rfl, bover B1.out hb⟩

end Go.Proofs.YtdpbapoahfggeaaDoor
/- Contract of the document's Good, over its own code: goodB. -/
namespace Go.Proofs.YtdpbapoahfggeaaDoor
open Go.ChangeShapes Go.WideShapes Go.ChangeAt Go.RowKit
set_option linter.unusedVariables false

theorem take_rev (d : Itm) (l : List Itm) (i : Nat) (h : i < l.length) : (l.take (i + 1)).reverse = l.getD i d :: (l.take i).reverse := by
  have : l.getD i d = l[i] := by simp [List.getD, h]
  rw [List.take_succ_eq_append_getElem h, List.reverse_append, this]; rfl

theorem wnt_no (s : Int) (x : Itm) (l : List Itm) (k : Nat) (c : ¬ (can s x = true ∧ k ≠ 0)) : wnt s (x :: l) k = none := by
  show (if _ then _ else _) = _
  rw [if_neg c]
theorem wnt_yes (s : Int) (x : Itm) (l : List Itm) (k : Nat) (c : can s x = true) (c2 : k ≠ 0) : wnt s (x :: l) k = wnt s l (k - 1 + tk x.op) := by
  show (if _ then _ else _) = _
  rw [if_pos ⟨c, c2⟩]

theorem rgood_none (s : Int) (l : List Itm) (h : wnt s l.reverse 1 = none) : goodB s l = false := by
  rw [good_right, h]; rfl
theorem rgood_some (s : Int) (l : List Itm) (k : Nat) (h : wnt s l.reverse 1 = some k) : goodB s l = (((k : Int) == 0) && decide (l.length ≤ 64)) := by
  rw [good_right, h]
  congr 1
  rw [Bool.eq_iff_iff]; simp

set_option maxRecDepth 100000 in
set_option maxHeartbeats 1000000 in
theorem rgood_any (s : Int) (a : Option Addr) (n cap : Nat) (xs : List Itm) (w : World) (hn : n = xs.length) (hx : ItemsAt w a xs) (hl : n ≤ 1000000) (h0 : -9223372036854775808 ≤ s) (h1 : s ≤ 9223372036854775807) :
    Calls Tryd.prog 31 #[.slice a n cap, .int .i64 s] w fun e w' => e = .returned (.bool (goodB s xs)) ∧ Below w.heap.size w w' := by
  have HN := hid hn
  have HX := hid hx
  clear hn hx
  go_enter Tryd.func31, Tryd.ntmps31
  go_wp2_with fail
  go_loopw [5, 6] (fun t5 t wr => ∃ (i : Int) (k : Nat), t = .int .i64 i ∧ -1 ≤ i ∧ i < n ∧ t5 = .int .i64 k ∧ (k : Int) + i ≤ n ∧ Hid (wnt s (xs.take (i + 1).toNat).reverse k = wnt s xs.reverse 1) ∧ Hid (Below w.heap.size w wr)) (fun _ t _ => (intOf t + 1).toNat)
  case atStart =>
    refine ⟨(n : Int) - 1, 1, rfl, by omega, by omega, rfl, by omega, ?_, Below.refl _ _⟩
    have e : ((n : Int) - 1 + 1).toNat = n := by omega
    rw [Hid, e, List.take_of_length_le (by rw [← HN.out]; omega)]
  case round =>
    obtain ⟨i, k, rfl, hi0, hi1, rfl, hki, E, B⟩ := hrel
    by_cases hneg : i < 0
    · have e : i = -1 := by omega
      subst e
      have E2 := hid (show wnt s xs.reverse 1 = some k by rw [← E.out]; rfl)
      clear E HX hneg
      cases hk : ((k : Int) == 0)
      · have F : Hid (goodB s xs = false) := hid (by rw [rgood_some s xs k E2.out, hk]; rfl)
        clear E2
        go_wp2
        go_ret
        exact ⟨retB F.out.symm, B.out⟩
      · have F : Hid (goodB s xs = decide ((n : Int) ≤ 64)) := hid (by
          rw [rgood_some s xs k E2.out, hk, ← HN.out, Bool.eq_iff_iff]; simp; omega)
        clear E2
        go_wp2
        go_ret
        exact ⟨retB F.out.symm, B.out⟩
    · obtain ⟨j, rfl⟩ := Int.eq_ofNat_of_zero_le (show 0 ≤ i by omega)
      have hjn : j < n := by omega
      obtain ⟨b, off, rfl, hb, ⟨c0, c1, c2⟩, ok⟩ := HX.out j (by rw [← HN.out]; exact hjn)
      rw [← B.out.cell hb] at c0 c1 c2
      have ej : ((j : Int) + 1).toNat = j + 1 := by omega
      have D := hid (take_rev Itm.blank xs j (by rw [← HN.out]; exact hjn))
      rw [ej, D.out] at E
      generalize xs.getD j Itm.blank = x at *
      replace ok := hid ok
      have T := hid (rtakes_any s x wr ok.out h0 h1)
      clear D HX hneg hi0
      have ht2 := tk_le x.op
      cases hc : can s x
      · have r : Hid (rtk s x = -1) := hid (by unfold rtk; rw [hc]; rfl)
        rw [r.out] at T
        have F : Hid (goodB s xs = false) := hid (rgood_none s xs (by rw [← E.out]; exact wnt_no _ _ _ _ (by rw [hc]; simp)))
        clear r E hc
        go_wp2_with (go_at_call 42; refine Calls.mono T.out ?_; rintro e w' ⟨rfl, hb'⟩)
        go_ret
        exact ⟨retB F.out.symm, B.out.trans (hb'.mono B.out.size)⟩
      · have r : Hid (rtk s x = tk x.op) := hid (by unfold rtk; rw [hc]; rfl)
        rw [r.out] at T
        by_cases hk : k = 0
        · subst hk
          have F : Hid (goodB s xs = false) := hid (rgood_none s xs (by rw [← E.out]; exact wnt_no _ _ _ _ (by simp)))
          clear r E hc
          generalize tk x.op = t at *
          have q : (0 : Int) ≤ (t : Int) := by omega
          go_wp2_with (go_at_call 42; refine Calls.mono T.out ?_; rintro e w' ⟨rfl, hb'⟩)
          go_ret
          exact ⟨retB F.out.symm, B.out.trans (hb'.mono B.out.size)⟩
        · have E2 : Hid (wnt s (xs.take j).reverse (k - 1 + tk x.op) = wnt s xs.reverse 1) := hid (by rw [← E.out]; exact (wnt_yes _ _ _ _ hc hk).symm)
          clear r E hc
          generalize tk x.op = t at *
          have q : (0 : Int) ≤ (t : Int) := by omega
          have q0 : ((k : Int) == 0) = false := by simp; omega
          go_wp2_with (go_at_call 42; refine Calls.mono T.out ?_; rintro e w' ⟨rfl, hb'⟩)
          go_roundw
          case rel =>
            refine ⟨(j : Int) - 1, k - 1 + t, rfl, by omega, by omega, ?_, by omega, ?_, hid (B.out.trans (hb'.mono B.out.size))⟩
            · congr 1; omega
            · have e : ((j : Int) - 1 + 1).toNat = j := by omega
              rw [e]; exact E2
          case measure => simp [intOf]
end Go.Proofs.YtdpbapoahfggeaaDoor
/- Layer 9 as plain mathematics: which codes can be. No Go in it. -/
namespace Go.Proofs.YtdpbapoahfggeaaDoor
set_option linter.unusedVariables false

def isIn (n : Int) (m : Nat) : Bool := decide (0 ≤ n) && decide (n < (m : Int))
theorem isIn_iff {n : Int} {m : Nat} : isIn n m = true ↔ 0 ≤ n ∧ n < (m : Int) := by simp [isIn]

/-- Can a local be, with so many records? -/
def locOk (nr : Nat) (l : Loc) : Bool :=
  if l.kind == 4 then isIn l.rc nr else if l.kind == 1 || l.kind == 2 || l.kind == 3 then l.rc == 0 else false

/-- Which fields an instruction has. -/
def hasD (op : Int) : Bool := op == 1 || op == 2 || op == 3 || op == 4 || op == 8 || op == 9 || op == 10
def hasS (op : Int) : Bool := op == 3 || op == 4 || op == 6 || op == 7 || op == 10
def hasR (op : Int) : Bool := op == 3 || op == 6 || op == 8
def hasN (op : Int) : Bool := op == 2 || op == 3 || op == 5 || op == 6 || op == 8 || op == 9 || op == 15 || op == 16
def hasT (op : Int) : Bool := op == 13 || op == 14
def hasI (op : Int) : Bool := op == 1 || op == 5 || op == 6 || op == 7 || op == 9 || op == 11 || op == 12 || op == 14
def hasX (op : Int) : Bool := op == 4 || op == 7
def isOp (op : Int) : Bool := decide (1 ≤ op) && decide (op ≤ 17)
def touchB (op : Int) : Bool := decide (2 ≤ op) && decide (op ≤ 9)

def fld (named good zero : Bool) : Bool := if named then good else zero

/-- Where it goes on: in the thread, in the same section or none. -/
def tgtB (secs : List Sec) (th : Int) (nc : Nat) (pl n : Int) : Bool := isIn n nc && inside secs th n == inside secs th pl

def Loc.z : Loc := ⟨0, 0, false⟩
def Bd.z : Bd := ⟨[], .bool false, [], .bool false, 0⟩
def Rl.z : Rl := ⟨[], .bool false⟩
def Ins.z : Ins := ⟨0, 0, 0, 0, 0, 0, [], .slice none 0 0, [], .slice none 0 0⟩
def Ste.z : Ste := ⟨0, 0, 0⟩
def Sec.z : Sec := ⟨0, 0, 0⟩

/-- The fields one by one. -/
def fieldsB (c : Cd) (th : Int) (b : Bd) (pl : Int) (x : Ins) : Bool :=
  fld (hasD x.op) (isIn x.dst b.slots.length) (x.dst == 0) && (fld (hasS x.op) (isIn x.src b.slots.length) (x.src == 0) && (fld (hasR x.op) (isIn x.rc c.recs.length) (x.rc == 0) &&
    ((hasN x.op || x.n == 0) && (fld (hasT x.op) (tgtB c.secs th b.code.length pl x.to) (x.to == 0) &&
      (fld (hasI x.op) (goodB b.slots.length x.items) (decide (x.items.length = 0)) && fld (hasX x.op) (goodB b.slots.length x.index) (decide (x.index.length = 0)))))))

/-- A slot is of the kind and the record. -/
def holdsB (b : Bd) (slot kind rc : Int) : Bool := (b.slots.getD slot.toNat Loc.z).kind == kind && (b.slots.getD slot.toNat Loc.z).rc == rc

def hasFieldB (c : Cd) (b : Bd) (x : Ins) : Bool := holdsB b x.src 4 x.rc && isIn x.n (c.recs.getD x.rc.toNat Rl.z).flds.length
def fieldAt (c : Cd) (x : Ins) : Loc := (c.recs.getD x.rc.toNat Rl.z).flds.getD x.n.toNat Loc.z
def globAt (c : Cd) (x : Ins) : Loc := c.globs.getD x.n.toNat Loc.z
def siteB (c : Cd) (th pl : Int) (n rc : Int) : Bool := isIn n c.sites.length && ((c.sites.getD n.toNat Ste.z).th == th && ((c.sites.getD n.toNat Ste.z).pl == pl && (c.sites.getD n.toNat Ste.z).rc == rc))

/-- What the fields are places of agrees. -/
def agreesB (c : Cd) (th : Int) (b : Bd) (pl : Int) (x : Ins) : Bool :=
  if x.op == 2 then isIn x.n c.globs.length && holdsB b x.dst (globAt c x).kind (globAt c x).rc
  else if x.op == 5 then isIn x.n c.globs.length
  else if x.op == 3 then hasFieldB c b x && holdsB b x.dst (fieldAt c x).kind (fieldAt c x).rc
  else if x.op == 6 then hasFieldB c b x
  else if x.op == 4 || x.op == 10 then holdsB b x.dst 1 0 && holdsB b x.src 3 0
  else if x.op == 7 then holdsB b x.src 3 0
  else if x.op == 8 then holdsB b x.dst 4 x.rc && siteB c th pl x.n x.rc
  else if x.op == 9 then holdsB b x.dst 3 0 && siteB c th pl x.n (-1)
  else if x.op == 15 then isIn x.n c.secs.length && ((c.secs.getD x.n.toNat Sec.z).th == th && (c.secs.getD x.n.toNat Sec.z).fr == pl)
  else if x.op == 16 then isIn x.n c.secs.length && ((c.secs.getD x.n.toNat Sec.z).th == th && (c.secs.getD x.n.toNat Sec.z).to == pl)
  else true

def insOk (c : Cd) (th : Int) (b : Bd) (pl : Int) (x : Ins) : Bool :=
  isOp x.op && ((decide (pl = (b.code.length : Int) - 1) == (x.op == 17)) && ((!touchB x.op || decide (0 ≤ inside c.secs th pl)) && (fieldsB c th b pl x && agreesB c th b pl x)))

/-- The instruction at a place of a thread; a blank one, if there is none. -/
def insAt (c : Cd) (th pl : Int) : Ins :=
  if isIn th c.threads.length && isIn pl (c.threads.getD th.toNat Bd.z).code.length then (c.threads.getD th.toNat Bd.z).code.getD pl.toNat Ins.z else Ins.z

def meetB (a b : Sec) : Bool := a.th == b.th && (decide (a.fr ≤ b.to) && decide (b.fr ≤ a.to))

def cellOk (nr : Nat) (l : Loc) : Bool := !l.once && locOk nr l

def secOk (c : Cd) (i : Int) (s : Sec) : Prop :=
  (insAt c s.th s.fr).op = 15 ∧ (insAt c s.th s.fr).n = i ∧ (insAt c s.th s.to).op = 16 ∧ (insAt c s.th s.to).n = i ∧ s.fr < s.to
def steOk (c : Cd) (i : Int) (s : Ste) : Prop := ((insAt c s.th s.pl).op = 8 ∨ (insAt c s.th s.pl).op = 9) ∧ (insAt c s.th s.pl).n = i

/-- The thread can be. -/
def bdOk (c : Cd) (th : Int) (b : Bd) : Prop :=
  b.slots.length ≤ 64 ∧ 0 ≤ b.most ∧ b.most ≤ 4096 ∧ 0 < b.code.length ∧ b.code.length ≤ 256 ∧ ∀ (j : Nat) (x : Ins), b.code[j]? = some x → insOk c th b j x = true

/-- The code can be. -/
structure GoodP (c : Cd) : Prop where
  l1 : c.recs.length ≤ 6
  l2 : c.globs.length ≤ 8
  l3 : c.threads.length ≤ 4
  l4 : c.sites.length ≤ 32
  l5 : c.secs.length ≤ 32
  flds : ∀ (i : Nat) (r : Rl), c.recs[i]? = some r → r.flds.length ≤ 6
  cells1 : ∀ (i : Nat) (l : Loc), c.globs[i]? = some l → cellOk c.recs.length l = true
  cells2 : ∀ (i : Nat) (r : Rl), c.recs[i]? = some r → ∀ (j : Nat) (l : Loc), r.flds[j]? = some l → cellOk c.recs.length l = true
  slots : ∀ (i : Nat) (t : Bd), c.threads[i]? = some t → ∀ (j : Nat) (l : Loc), t.slots[j]? = some l → locOk c.recs.length l = true
  secs : ∀ (i : Nat) (s : Sec), c.secs[i]? = some s → secOk c i s ∧ ∀ (k : Nat) (o : Sec), k < i → c.secs[k]? = some o → meetB s o = false
  sites : ∀ (i : Nat) (s : Ste), c.sites[i]? = some s → steOk c i s
  ths : ∀ (i : Nat) (t : Bd), c.threads[i]? = some t → bdOk c i t

/-- A code that isn't too great to be played. -/
structure SmallP (c : Cd) : Prop where
  l1 : c.recs.length ≤ 1000
  l2 : c.globs.length ≤ 1000
  l3 : c.threads.length ≤ 1000
  l4 : c.sites.length ≤ 1000
  l5 : c.secs.length ≤ 1000
  flds : ∀ (i : Nat) (r : Rl), c.recs[i]? = some r → r.flds.length ≤ 1000
  slots : ∀ (i : Nat) (t : Bd), c.threads[i]? = some t → t.slots.length ≤ 1000
  code : ∀ (i : Nat) (t : Bd), c.threads[i]? = some t → t.code.length ≤ 1000
  items : ∀ (i : Nat) (t : Bd), c.threads[i]? = some t → ∀ (j : Nat) (x : Ins), t.code[j]? = some x → x.items.length ≤ 1000 ∧ x.index.length ≤ 1000
end Go.Proofs.YtdpbapoahfggeaaDoor
/- Contracts of the small functions: places, locals, kinds of instructions. -/
namespace Go.Proofs.YtdpbapoahfggeaaDoor
open Go.ChangeShapes Go.WideShapes Go.ChangeAt Go.RowKit
set_option linter.unusedVariables false
set_option linter.unusedSimpArgs false

/-- It answers whether P, and turns nothing old; N: it answers whether not. -/
def Ans (P : Prop) (w : World) (e : Ending) (w' : World) : Prop := ∃ q, e = .returned (.bool q) ∧ (q = true ↔ P) ∧ Below w.heap.size w w'
def AnsN (P : Prop) (w : World) (e : Ending) (w' : World) : Prop := ∃ q, e = .returned (.bool q) ∧ (q = false ↔ P) ∧ Below w.heap.size w w'
theorem exB {q : Bool} {P : Prop} {w w' : World} (h : q = true ↔ P) (hb : Below w.heap.size w w') : Ans P w (.returned (.bool q)) w' := ⟨q, rfl, h, hb⟩
theorem exN {q : Bool} {P : Prop} {w w' : World} (h : q = false ↔ P) (hb : Below w.heap.size w w') : AnsN P w (.returned (.bool q)) w' := ⟨q, rfl, h, hb⟩
theorem exNo {P : Prop} {w w' : World} (h : ¬ P) (hb : Below w.heap.size w w') : Ans P w (.returned (.bool false)) w' := ⟨false, rfl, ⟨(fun k => by cases k), (fun k => absurd k h)⟩, hb⟩
theorem exYes {P : Prop} {w w' : World} (h : P) (hb : Below w.heap.size w w') : Ans P w (.returned (.bool true)) w' := ⟨true, rfl, ⟨fun _ => h, fun _ => rfl⟩, hb⟩

theorem below2 (w : World) (o1 o2 : Obj) : Below w.heap.size w ((w.alloc o1).alloc o2) := ((Below.refl _ _).alloc (Nat.le_refl _) _).alloc (by simp) _
theorem below3 (w : World) (o1 o2 o3 : Obj) : Below w.heap.size w (((w.alloc o1).alloc o2).alloc o3) := (below2 w o1 o2).alloc (by simp; omega) _

set_option maxHeartbeats 400000 in
theorem place46_any (n : Int) (a : Option Addr) (m cap : Nat) (w : World) : Calls Tryd.prog 63 #[.int .i64 n, .slice a m cap] w fun e w' => e = .returned (.bool (isIn n m)) ∧ w' = w := by
  go_enter Tryd.func63, Tryd.ntmps63
  go_wp2
  all_goals
    go_ret
    refine ⟨retB ?_, rfl⟩
    first | (simp [isIn, *]; done) | (simp [isIn, *]; intros; omega)

set_option maxHeartbeats 400000 in
theorem place47_any (n : Int) (a : Option Addr) (m cap : Nat) (w : World) : Calls Tryd.prog 64 #[.int .i64 n, .slice a m cap] w fun e w' => e = .returned (.bool (isIn n m)) ∧ w' = w := by
  go_enter Tryd.func64, Tryd.ntmps64
  go_wp2
  all_goals
    go_ret
    refine ⟨retB ?_, rfl⟩
    first | (simp [isIn, *]; done) | (simp [isIn, *]; intros; omega)

set_option maxHeartbeats 400000 in
theorem place48_any (n : Int) (a : Option Addr) (m cap : Nat) (w : World) : Calls Tryd.prog 65 #[.int .i64 n, .slice a m cap] w fun e w' => e = .returned (.bool (isIn n m)) ∧ w' = w := by
  go_enter Tryd.func65, Tryd.ntmps65
  go_wp2
  all_goals
    go_ret
    refine ⟨retB ?_, rfl⟩
    first | (simp [isIn, *]; done) | (simp [isIn, *]; intros; omega)

set_option maxHeartbeats 400000 in
theorem place59_any (n : Int) (a : Option Addr) (m cap : Nat) (w : World) : Calls Tryd.prog 77 #[.int .i64 n, .slice a m cap] w fun e w' => e = .returned (.bool (isIn n m)) ∧ w' = w := by
  go_enter Tryd.func77, Tryd.ntmps77
  go_wp2
  all_goals
    go_ret
    refine ⟨retB ?_, rfl⟩
    first | (simp [isIn, *]; done) | (simp [isIn, *]; intros; omega)

set_option maxHeartbeats 400000 in
theorem place68_any (n : Int) (a : Option Addr) (m cap : Nat) (w : World) : Calls Tryd.prog 86 #[.int .i64 n, .slice a m cap] w fun e w' => e = .returned (.bool (isIn n m)) ∧ w' = w := by
  go_enter Tryd.func86, Tryd.ntmps86
  go_wp2
  all_goals
    go_ret
    refine ⟨retB ?_, rfl⟩
    first | (simp [isIn, *]; done) | (simp [isIn, *]; intros; omega)

set_option maxHeartbeats 400000 in
theorem place71_any (n : Int) (a : Option Addr) (m cap : Nat) (w : World) : Calls Tryd.prog 90 #[.int .i64 n, .slice a m cap] w fun e w' => e = .returned (.bool (isIn n m)) ∧ w' = w := by
  go_enter Tryd.func90, Tryd.ntmps90
  go_wp2
  all_goals
    go_ret
    refine ⟨retB ?_, rfl⟩
    first | (simp [isIn, *]; done) | (simp [isIn, *]; intros; omega)

set_option maxHeartbeats 400000 in
theorem in_any (n m : Int) (k : Nat) (hk : m = k) (w : World) : Calls Tryd.prog 20 #[.int .i64 n, .int .i64 m] w fun e w' => e = .returned (.bool (isIn n k)) ∧ w' = w := by
  subst hk
  go_enter Tryd.func20, Tryd.ntmps20
  go_wp2
  all_goals
    go_ret
    refine ⟨retB ?_, rfl⟩
    first | (simp [isIn, *]; done) | (simp [isIn, *]; intros; omega)

set_option maxHeartbeats 1000000 in
theorem localCan_any (a : Option Addr) (n cap : Nat) (gv tv ev cv : Value) (l : Loc) (w : World) :
    Calls Tryd.prog 46 #[.agg #[.slice a n cap, gv, tv, ev, cv], .agg #[.int .i64 l.kind, .int .i64 l.rc, .bool l.once]] w fun e w' => e = .returned (.bool (locOk n l)) ∧ Below w.heap.size w w' := by
  obtain ⟨k, r, o⟩ := l
  have C := hid (fun W => place46_any r a n cap W)
  go_enter Tryd.func46, Tryd.ntmps46
  go_wp2_with (go_at_call 63; refine Calls.mono (C.out _) ?_; rintro e w' ⟨rfl, rfl⟩)
  all_goals
    go_ret
    refine ⟨retB ?_, below2 _ _ _⟩
    first | (simp [locOk, *]; done) | (simp only [beq_iff_eq] at *; subst_vars; simp [locOk])

set_option maxHeartbeats 1000000 in
theorem rlocal_any (a : Option Addr) (n cap : Nat) (gv tv ev cv : Value) (l : Loc) (w : World) :
    Calls Tryd.prog 19 #[.agg #[.slice a n cap, gv, tv, ev, cv], .agg #[.int .i64 l.kind, .int .i64 l.rc, .bool l.once]] w fun e w' => e = .returned (.bool (locOk n l)) ∧ Below w.heap.size w w' := by
  obtain ⟨k, r, o⟩ := l
  have C := hid (fun W => in_any r n n rfl W)
  go_enter Tryd.func19, Tryd.ntmps19
  go_wp2_with (go_at_call 20; refine Calls.mono (C.out _) ?_; rintro e w' ⟨rfl, rfl⟩)
  all_goals
    go_ret
    refine ⟨retB ?_, below2 _ _ _⟩
    first | (simp [locOk, *]; done) | (simp [locOk]; omega)

set_option maxHeartbeats 1000000 in
theorem meet_any (a b : Sec) (w : World) :
    Calls Tryd.prog 57 #[.agg #[.int .i64 a.th, .int .i64 a.fr, .int .i64 a.to], .agg #[.int .i64 b.th, .int .i64 b.fr, .int .i64 b.to]] w fun e w' => e = .returned (.bool (meetB a b)) ∧ Below w.heap.size w w' := by
  go_enter Tryd.func57, Tryd.ntmps57
  go_wp2
  all_goals
    go_ret
    refine ⟨retB ?_, below2 _ _ _⟩
    first | (simp [meetB, *]; done) | (simp [meetB, *]; intros; omega)

set_option maxHeartbeats 1000000 in
theorem touches_any (op : Int) (w : World) : Calls Tryd.prog 71 #[.int .i64 op] w fun e w' => e = .returned (.bool (touchB op)) ∧ w' = w := by
  go_enter Tryd.func71, Tryd.ntmps71
  go_wp2
  all_goals
    go_ret
    refine ⟨retB ?_, rfl⟩
    simp only [beq_iff_eq, beq_eq_false_iff_ne, ne_eq] at *
    first | (subst_vars; rfl) | (simp [touchB]; omega)

theorem RowOf.at {α : Type} {cells : α → List Value} {s : Nat} {ok : World → α → Prop} {w : World} {v : Value} {l : List α} (h : RowOf cells s ok w v l) :
    ∃ a cap, v = .slice a l.length cap ∧ ∀ j, j < l.length → ∃ x b off, l[j]? = some x ∧ a = some ⟨b, off, none⟩ ∧ b < w.heap.size ∧ w.rangeAt b (off + j * s) (cells x) ∧ ok w x := by
  obtain ⟨a, cap, h1, h2, h3, h4, h5, h6⟩ := h
  refine ⟨a, cap, h1, fun j hj => ?_⟩
  have hs : l[j]? = some l[j] := by simp [hj]
  obtain ⟨b, off, e, hlt, hr, ho⟩ := h6 j _ hs
  exact ⟨_, b, off, hs, e, hlt, hr, ho⟩

theorem Loc.kept {w w' : World} {x : Loc} (h : x.okW w) (hb : Below w.heap.size w w') : x.okW w' := h
theorem Sec.kept {w w' : World} {x : Sec} (h : x.okW w) (hb : Below w.heap.size w w') : x.okW w' := h
theorem Ste.kept {w w' : World} {x : Ste} (h : x.okW w) (hb : Below w.heap.size w w') : x.okW w' := h

/-- The fields that an instruction has, as a value. -/
def shapeV (op : Int) : Value := .agg #[.bool (hasD op), .bool (hasS op), .bool (hasR op), .bool (hasN op), .bool (hasT op), .bool (hasI op), .bool (hasX op)]

theorem results_row_tmp {P : Program} {fn : Func} {p u : Tmp} {ty : TypeId} (h : fn.results = #[.cell p ty, .tmp u]) (tmps : Array Value) (w : World) (g : Nat) (t : TypeId) (cs : Array Value) (fr : Nat × Nat) (d : TypeDesc)
    (hp : tmps.getD p undef = .pointer (some ⟨g, 0, none⟩)) (hg : w.heap[g]? = some (.cells cs t fr))
    (hu : P.underlying ty = some d) (hd : (match d with | .struct _ | .array _ _ => true | _ => false) = true) (hi : (P.info? ty).map (·.size) = some cs.size) :
    (results fn tmps).run P w = .ok (.tuple #[.agg cs, tmps.getD u undef]) w := by
  rw [results_cell_tmp h, hp]
  simp [asAddr, run_loadVar_row (P := P) w g t ty cs fr d hg hu hd hi, Result.andThen]

set_option maxHeartbeats 1000000 in
theorem shape1 (w : World) : Calls Tryd.prog 70 #[.int .i64 1] w fun e w' => e = .returned (.tuple #[shapeV 1, .bool true]) ∧ Below w.heap.size w w' := by
  go_enter Tryd.func70, Tryd.ntmps70
  go_wp2
  try simp only [Exit.inBlock, Exit.then]
  refine bodyPost_ret (results_row_tmp (P := Tryd.prog) rfl _ _ w.heap.size _ _ _ _ rfl (by first | exact heap_alloc_new _ _ | skip) Tryd.underlying119 rfl (by kernel_rfl)) rfl ?_
  exact ⟨rfl, (Below.refl _ _).alloc (Nat.le_refl _) _⟩


end Go.Proofs.YtdpbapoahfggeaaDoor
