/- Contracts of calc's fetch, turn, join and reckon, over the landed code. -/
import Derived.Test.YtefcpidegnddiaaCans
import Derived.Test.YtefcpidegnddiaaRows8
import Derived.WalkKit
import Derived.ProofKit
import Derived.Deep.Draws
import Derived.Deep.QuietTactic
import Derived.BigQuiet
namespace Go.Proofs.Ytefcpidegnddiaa
open Go.ChangeShapes Go.WideShapes Go.ChangeAt Go.RowKit
set_option linter.unusedVariables false

theorem retU {a b : Int} (h : a = b) : Ending.returned (.int .u64 a) = .returned (.int .u64 b) := by rw [h]
theorem retUB {a b : Int} {c d : Bool} (h : a = b) (h2 : c = d) : Ending.returned (.tuple #[.int .u64 a, .bool c]) = .returned (.tuple #[.int .u64 b, .bool d]) := by rw [h, h2]

theorem below_drewN {B : Nat} {a w : World} (h : Below B a w) (n : Nat) : Below B a (w.drewN n) := ⟨h.os, h.tape, h.output, h.size, h.block⟩

/-- An item that takes none names a slot that there is. -/
def SlotIn (s : Nat) (x : Itm) : Prop := x.op = 2 → x.n.toNat < s

set_option maxHeartbeats 1000000 in
theorem fetch_any (x : Itm) (sa ia : Option Addr) (sn sc im ic : Nat) (sl ins : List Int) (w : World) (hs : sn = sl.length) (hi : im = ins.length) (hx : x.ok) (hin : SlotIn sn x) (hS : NumsAt .u64 w sa sl) (hI : NumsAt .i64 w ia ins) (hsl : sn ≤ 1000000) (hil : im ≤ 1000000) :
    Calls Try.prog 19 #[.agg #[.int .i64 x.op, .int .i64 x.bin, .int .u64 x.n], .slice sa sn sc, .slice ia im ic] w fun e w' => e = .returned (.int .u64 (fetchV sl ins x)) ∧ Below w.heap.size w w' := by
  obtain ⟨op, bin, n⟩ := x
  obtain ⟨_, _, _, _, n0, n1⟩ := hx
  obtain ⟨m, rfl⟩ := Int.eq_ofNat_of_zero_le n0
  have HS : Hid (NumsAt .u64 w sa sl) := hS
  have HI : Hid (NumsAt .i64 w ia ins) := hI
  have hs' : Hid (sn = sl.length) := hs
  have hi' : Hid (im = ins.length) := hi
  clear hS hI hs hi
  by_cases h2 : op = 2
  · subst h2
    have hm : m < sn := by have := hin rfl; simpa using this
    obtain ⟨b, off, rfl, hb, c0, cw⟩ := HS.out m (by rw [← hs'.out]; exact hm)
    have F : Hid (fetchV sl ins ⟨2, bin, (m : Int)⟩ = sl.getD m 0) := by simp [Hid, fetchV]
    generalize sl.getD m 0 = v at *
    rw [F.out]
    rw [← ((Below.refl w.heap.size w).alloc (Nat.le_refl _) (.cells #[.int .i64 2, .int .i64 bin, .int .u64 (m : Int)] 36)).cell (p := ⟨b, off + m, none⟩) hb] at c0
    clear F HS HI cw hin
    go_enter Try.func19, Try.ntmps19
    go_wp2
    go_ret
    exact ⟨rfl, (Below.refl _ _).alloc (Nat.le_refl _) _⟩
  by_cases h3 : op = 3
  · subst h3
    by_cases hm : m < im
    · obtain ⟨b, off, rfl, hb, c0, cw⟩ := HI.out m (by rw [← hi'.out]; exact hm)
      have F : Hid (fetchV sl ins ⟨3, bin, (m : Int)⟩ = IntKind.u64.wrap (ins.getD m 0)) := by
        have : (m : Int) < (ins.length : Int) := by rw [← hi'.out]; omega
        simp [Hid, fetchV, this]
      generalize ins.getD m 0 = v at *
      rw [F.out]
      rw [← ((Below.refl w.heap.size w).alloc (Nat.le_refl _) (.cells #[.int .i64 3, .int .i64 bin, .int .u64 (m : Int)] 36)).cell (p := ⟨b, off + m, none⟩) hb] at c0
      clear F HS HI cw hin
      have q : (m : Int) < (im : Int) := by omega
      go_enter Try.func19, Try.ntmps19
      go_wp2
      go_ret
      exact ⟨rfl, (Below.refl _ _).alloc (Nat.le_refl _) _⟩
    · have F : Hid (fetchV sl ins ⟨3, bin, (m : Int)⟩ = 0) := by
        have : ¬ (m : Int) < (ins.length : Int) := by rw [← hi'.out]; omega
        simp [Hid, fetchV, this]
      rw [F.out]
      have q : ¬ (m : Int) < (im : Int) := by omega
      have q' : (im : Int) ≤ (m : Int) := by omega
      clear F HS HI hin
      go_enter Try.func19, Try.ntmps19
      go_wp2
      go_ret
      exact ⟨rfl, (Below.refl _ _).alloc (Nat.le_refl _) _⟩
  · have F : Hid (fetchV sl ins ⟨op, bin, (m : Int)⟩ = (m : Int)) := by simp [Hid, fetchV, h2, h3]
    have g2 : (op == 2) = false := by simp [h2]
    have g3 : (op == 3) = false := by simp [h3]
    rw [F.out]
    clear F HS HI hin h2 h3
    go_enter Try.func19, Try.ntmps19
    go_wp2
    go_ret
    exact ⟨rfl, (Below.refl _ _).alloc (Nat.le_refl _) _⟩

set_option maxHeartbeats 1000000 in
theorem turn_any (op v : Int) (w : World) (h0 : 0 ≤ v) (h1 : v ≤ 18446744073709551615) :
    Calls Try.prog 20 #[.int .i64 op, .int .u64 v] w fun e w' => e = .returned (.int .u64 (turnV op v)) ∧ w' = w := by
  by_cases h5 : op = 5
  · subst h5
    have F : turnV 5 v = (if nanB v.toNat then 9221120237041090560 else flipI v) := by simp [turnV]
    rw [F]
    clear F
    have C := fun W => neg_any v W h0 h1
    generalize (if nanB v.toNat then (9221120237041090560 : Int) else flipI v) = r at *
    go_enter Try.func20, Try.ntmps20
    go_wp2_with (go_at_call 29; refine (C _).mono ?_; rintro e w' ⟨rfl, rfl⟩)
    go_ret
    exact ⟨rfl, rfl⟩
  by_cases h6 : op = 6
  · subst h6
    have F : turnV 6 v = ((floatOfInt .f64 (wrap64 v) : Nat) : Int) := by simp [turnV]
    rw [F]
    clear F
    go_enter Try.func20, Try.ntmps20
    go_wp2_with (go_at_call 30; refine (fromInt_any _ _).mono ?_; rintro e w' ⟨rfl, rfl⟩)
    go_ret
    exact ⟨rfl, rfl⟩
  by_cases h7 : op = 7
  · subst h7
    have F : turnV 7 v = IntKind.u64.wrap (truncZ v.toNat) := by simp [turnV]
    rw [F]
    clear F
    go_enter Try.func20, Try.ntmps20
    go_wp2_with (go_at_call 31; refine (trunc_any _ _).mono ?_; rintro e w' ⟨rfl, rfl⟩)
    go_ret
    exact ⟨rfl, rfl⟩
  · have F : turnV op v = IntKind.u64.wrap (-v) := by simp [turnV, h5, h6, h7]
    have g5 : (op == 5) = false := by simp [h5]
    have g6 : (op == 6) = false := by simp [h6]
    have g7 : (op == 7) = false := by simp [h7]
    rw [F]
    clear F h5 h6 h7
    go_enter Try.func20, Try.ntmps20
    go_wp2
    go_ret
    exact ⟨rfl, rfl⟩

set_option maxHeartbeats 1000000 in
theorem join_any (x : Itm) (a b : Int) (w : World) (h0 : 0 ≤ a) (h1 : a ≤ 18446744073709551615) (k0 : 0 ≤ b) (k1 : b ≤ 18446744073709551615) :
    Calls Try.prog 21 #[.agg #[.int .i64 x.op, .int .i64 x.bin, .int .u64 x.n], .int .u64 a, .int .u64 b] w fun e w' => e = .returned (.tuple #[.int .u64 (joinN x a b), .bool (joinB x b)]) ∧ Below w.heap.size w w' := by
  obtain ⟨op, bin, n⟩ := x
  by_cases h9 : op = 9
  · subst h9
    have F : joinN ⟨9, bin, n⟩ a b = realI bin a b := by simp [joinN]
    have G : joinB ⟨9, bin, n⟩ b = true := by simp [joinB]
    rw [F, G]
    clear F G
    go_enter Try.func21, Try.ntmps21
    go_wp2_with (go_at_call 32; refine (real_is _ _ _ _).mono ?_; rintro e w' ⟨rfl, dn, rfl⟩)
    go_ret2
    exact ⟨rfl, below_drewN ((Below.refl _ _).alloc (Nat.le_refl _) _) _⟩
  · have F : joinN ⟨op, bin, n⟩ a b = IntKind.u64.wrap (intI bin (wrap64 a) (wrap64 b)) := by simp [joinN, h9]
    have G : joinB ⟨op, bin, n⟩ b = intB bin (wrap64 b) := by simp [joinB, h9]
    have g9 : (op == 9) = false := by simp [h9]
    rw [F, G]
    clear F G h9
    go_enter Try.func21, Try.ntmps21
    go_wp2_with (go_at_call 33; refine (int_any _ _ _ _).mono ?_; rintro e w' ⟨rfl, rfl⟩)
    go_ret2
    exact ⟨rfl, (Below.refl _ _).alloc (Nat.le_refl _) _⟩
end Go.Proofs.Ytefcpidegnddiaa
