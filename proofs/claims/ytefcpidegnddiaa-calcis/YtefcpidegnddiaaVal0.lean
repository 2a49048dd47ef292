/- Contract of the document's 'value' and 'Eval', over its own code. -/
import Derived.Test.YtefcpidegnddiaaRVal
import Derived.Test.YtefcpidegnddiaaRGood
import Derived.Test.YtefcpidegnddiaaEval
import Derived.OwnWalk
namespace Go.Proofs.Ytefcpidegnddiaa
open Go.ChangeShapes Go.WideShapes Go.ChangeAt Go.RowKit
set_option linter.unusedVariables false
attribute [local go_sem] run_frombits run_bits

theorem retT3 {a b c d e f : Int} (h : a = b) (h2 : c = d) (h3 : e = f) : Ending.returned (.tuple #[.int .u64 a, .int .i64 c, .int .i64 e]) = .returned (.tuple #[.int .u64 b, .int .i64 d, .int .i64 f]) := by rw [h, h2, h3]

theorem box_kept {w w' : World} {op bin n : Int}
    (h : Below (w.alloc (.cells #[.int .i64 op, .int .i64 bin, .int .u64 n] 36)).heap.size (w.alloc (.cells #[.int .i64 op, .int .i64 bin, .int .u64 n] 36)) w') :
    w'.cell? ⟨w.heap.size, 0, none⟩ = some (.int .i64 op) ∧ w'.cell? ⟨w.heap.size, 1, none⟩ = some (.int .i64 bin) ∧ w'.cell? ⟨w.heap.size, 2, none⟩ = some (.int .u64 n) := by
  have hz : w.heap.size < (w.alloc (.cells #[.int .i64 op, .int .i64 bin, .int .u64 n] 36)).heap.size := by simp
  refine ⟨?_, ?_, ?_⟩
  · rw [h.cell (p := ⟨w.heap.size, 0, none⟩) hz]; exact new_cell _ _ _ _ _ rfl
  · rw [h.cell (p := ⟨w.heap.size, 1, none⟩) hz]; exact new_cell _ _ _ _ _ rfl
  · rw [h.cell (p := ⟨w.heap.size, 2, none⟩) hz]; exact new_cell _ _ _ _ _ rfl

theorem neg_wrap (b : Int) : IntKind.u64.wrap (wrap64 (0 - wrap64 b)) = IntKind.u64.wrap (-b) := by
  rw [IntKind.wrap_u64, IntKind.wrap_u64]
  unfold wrap64
  omega

theorem can_ops (s : Int) (x : Itm) (h : can s x = true) : x.op = 1 ∨ x.op = 2 ∨ x.op = 3 ∨ x.op = 4 ∨ x.op = 5 ∨ x.op = 6 ∨ x.op = 7 ∨ x.op = 8 ∨ x.op = 9 ∨ x.op = 10 := by
  by_cases h1 : x.op = 1
  · omega
  by_cases h2 : x.op = 2
  · omega
  by_cases h3 : x.op = 3
  · omega
  by_cases h4 : x.op = 4
  · omega
  by_cases h5 : x.op = 5
  · omega
  by_cases h6 : x.op = 6
  · omega
  by_cases h7 : x.op = 7
  · omega
  by_cases h8 : x.op = 8
  · omega
  by_cases h9 : x.op = 9
  · omega
  by_cases h10 : x.op = 10
  · omega
  · simp [can, tk, h1, h2, h3, h4, h5, h6, h7, h8, h9, h10] at h

/-- What 'value' is to answer at a place. -/
def ValAt (xa sa ia : Option Addr) (xn xc sn sc im ic : Nat) (xs : List Itm) (sl ins : List Int) (k : Nat) : Prop :=
  ∀ W, ItemsAt W xa xs → NumsAt .u64 W sa sl → NumsAt .i64 W ia ins → Calls Try.prog 16 #[.slice xa xn xc, .int .i64 k, .slice sa sn sc, .slice ia im ic] W fun e w' => e = .returned (.tuple #[.int .u64 (topE sl ins xs k).v, .int .i64 (topE sl ins xs k).f, .int .i64 (topE sl ins xs k).b]) ∧ Below W.heap.size W w'

set_option maxRecDepth 100000 in
set_option maxHeartbeats 1000000 in
theorem val1 (b off : Nat) (sa ia : Option Addr) (xn xc sn sc im ic k : Nat) (sl ins : List Int) (bin n : Int) (W : World) (hkn : k < xn) (hxl : xn ≤ 1000) (hsl : sn ≤ 1000) (hil : im ≤ 1000) (hsn : Hid (sn = sl.length)) (him : Hid (im = ins.length)) (n0 : 0 ≤ n) (n1 : n ≤ 18446744073709551615)
    (c0 : W.cell? ⟨b, off + k * 3, none⟩ = some (.int .i64 1)) (c1 : W.cell? ⟨b, off + k * 3 + 1, none⟩ = some (.int .i64 bin)) (c2 : W.cell? ⟨b, off + k * 3 + 2, none⟩ = some (.int .u64 n)) (HS : Hid (NumsAt .u64 W sa sl)) (HI : Hid (NumsAt .i64 W ia ins)) :
    Calls Try.prog 16 #[.slice (some ⟨b, off, none⟩) xn xc, .int .i64 k, .slice sa sn sc, .slice ia im ic] W fun e w' => e = .returned (.tuple #[.int .u64 (fetchV sl ins ⟨1, bin, n⟩), .int .i64 (k : Int), .int .i64 0]) ∧ Below W.heap.size W w' := by
  obtain ⟨m, rfl⟩ := Int.eq_ofNat_of_zero_le n0
  have hB := (Below.refl W.heap.size W).alloc (Nat.le_refl _) (.cells #[.int .i64 1, .int .i64 bin, .int .u64 (m : Int)] 36)
  have F : fetchV sl ins ⟨1, bin, (m : Int)⟩ = (m : Int) := by simp [fetchV]
  rw [F]
  replace hB := hid hB
  clear HS HI F
  go_enter Try.func16, Try.ntmps16
  go_wp2
  go_ret3
  exact ⟨rfl, hB.out⟩

set_option maxRecDepth 100000 in
set_option maxHeartbeats 1000000 in
theorem val2 (b off : Nat) (sa ia : Option Addr) (xn xc sn sc im ic k : Nat) (sl ins : List Int) (bin n : Int) (W : World) (hkn : k < xn) (hxl : xn ≤ 1000) (hsl : sn ≤ 1000) (hil : im ≤ 1000) (hsn : Hid (sn = sl.length)) (him : Hid (im = ins.length)) (n0 : 0 ≤ n) (n1 : n ≤ 18446744073709551615) (hn : n < sn)
    (c0 : W.cell? ⟨b, off + k * 3, none⟩ = some (.int .i64 2)) (c1 : W.cell? ⟨b, off + k * 3 + 1, none⟩ = some (.int .i64 bin)) (c2 : W.cell? ⟨b, off + k * 3 + 2, none⟩ = some (.int .u64 n)) (HS : Hid (NumsAt .u64 W sa sl)) (HI : Hid (NumsAt .i64 W ia ins)) :
    Calls Try.prog 16 #[.slice (some ⟨b, off, none⟩) xn xc, .int .i64 k, .slice sa sn sc, .slice ia im ic] W fun e w' => e = .returned (.tuple #[.int .u64 (fetchV sl ins ⟨2, bin, n⟩), .int .i64 (k : Int), .int .i64 0]) ∧ Below W.heap.size W w' := by
  obtain ⟨m, rfl⟩ := Int.eq_ofNat_of_zero_le n0
  have hB := (Below.refl W.heap.size W).alloc (Nat.le_refl _) (.cells #[.int .i64 2, .int .i64 bin, .int .u64 (m : Int)] 36)
  have hm : m < sn := by omega
  obtain ⟨sb, soff, rfl, hb, d0, cw⟩ := HS.out m (by rw [← hsn.out]; exact hm)
  have F : fetchV sl ins ⟨2, bin, (m : Int)⟩ = sl.getD m 0 := by simp [fetchV]
  rw [F]
  generalize sl.getD m 0 = v at *
  rw [← hB.cell (p := ⟨sb, soff + m, none⟩) hb] at d0
  replace hB := hid hB
  clear HS HI F cw hb
  go_enter Try.func16, Try.ntmps16
  go_wp2
  go_ret3
  exact ⟨rfl, hB.out⟩

set_option maxRecDepth 100000 in
set_option maxHeartbeats 1000000 in
theorem val3 (b off : Nat) (sa ia : Option Addr) (xn xc sn sc im ic k : Nat) (sl ins : List Int) (bin n : Int) (W : World) (hkn : k < xn) (hxl : xn ≤ 1000) (hsl : sn ≤ 1000) (hil : im ≤ 1000) (hsn : Hid (sn = sl.length)) (him : Hid (im = ins.length)) (n0 : 0 ≤ n) (n1 : n ≤ 18446744073709551615) (hn : n < 16)
    (c0 : W.cell? ⟨b, off + k * 3, none⟩ = some (.int .i64 3)) (c1 : W.cell? ⟨b, off + k * 3 + 1, none⟩ = some (.int .i64 bin)) (c2 : W.cell? ⟨b, off + k * 3 + 2, none⟩ = some (.int .u64 n)) (HS : Hid (NumsAt .u64 W sa sl)) (HI : Hid (NumsAt .i64 W ia ins)) :
    Calls Try.prog 16 #[.slice (some ⟨b, off, none⟩) xn xc, .int .i64 k, .slice sa sn sc, .slice ia im ic] W fun e w' => e = .returned (.tuple #[.int .u64 (fetchV sl ins ⟨3, bin, n⟩), .int .i64 (k : Int), .int .i64 0]) ∧ Below W.heap.size W w' := by
  obtain ⟨m, rfl⟩ := Int.eq_ofNat_of_zero_le n0
  have hB := (Below.refl W.heap.size W).alloc (Nat.le_refl _) (.cells #[.int .i64 3, .int .i64 bin, .int .u64 (m : Int)] 36)
  by_cases hm : m < im
  · obtain ⟨sb, soff, rfl, hb, d0, cw⟩ := HI.out m (by rw [← him.out]; exact hm)
    have F : fetchV sl ins ⟨3, bin, (m : Int)⟩ = IntKind.u64.wrap (ins.getD m 0) := by
      have : (m : Int) < (ins.length : Int) := by rw [← him.out]; omega
      simp [fetchV, this]
    rw [F]
    generalize ins.getD m 0 = v at *
    rw [← hB.cell (p := ⟨sb, soff + m, none⟩) hb] at d0
    have q : (m : Int) < (im : Int) := by omega
    replace hB := hid hB
    clear HS HI F cw hb
    go_enter Try.func16, Try.ntmps16
    go_wp2
    go_ret3
    exact ⟨rfl, hB.out⟩
  · have F : fetchV sl ins ⟨3, bin, (m : Int)⟩ = 0 := by
      have : ¬ (m : Int) < (ins.length : Int) := by rw [← him.out]; omega
      simp [fetchV, this]
    rw [F]
    have q : (im : Int) ≤ (m : Int) := by omega
    replace hB := hid hB
    clear HS HI F
    go_enter Try.func16, Try.ntmps16
    go_wp2
    go_ret3
    exact ⟨rfl, hB.out⟩

end Go.Proofs.Ytefcpidegnddiaa
