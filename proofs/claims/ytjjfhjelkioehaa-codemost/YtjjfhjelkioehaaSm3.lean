/- Contracts of Has and has: which fields an instruction has. -/
import Derived.Test.YtjjfhjelkioehaaSm1
namespace Go.Proofs.Ytjjfhjelkioehaa
open Go.ChangeShapes Go.WideShapes Go.ChangeAt Go.RowKit
set_option linter.unusedVariables false
set_option linter.unusedSimpArgs false

/-- Is a letter in a text? -/
def hasC (s : ByteArray) (c : Int) : Bool := s.data.toList.any fun x => (x.toNat : Int) == c

theorem any_at {α : Type} (p : α → Bool) (l : List α) (i : Nat) (h : i < l.length) (hp : p (l[i]'h) = true) : l.any p = true := List.any_eq_true.2 ⟨_, List.getElem_mem h, hp⟩
theorem any_none {α : Type} (p : α → Bool) (l : List α) (h : ∀ i, (hi : i < l.length) → p (l[i]'hi) = false) : l.any p = false := by
  rw [List.any_eq_false]
  intro x hx
  obtain ⟨i, hi, rfl⟩ := List.getElem_of_mem hx
  rw [h i hi]; simp

set_option maxRecDepth 100000 in
set_option maxHeartbeats 1000000 in
theorem has_any (s : ByteArray) (c : Int) (w : World) (hs : s.size ≤ 1000) : Calls Try.prog 44 #[.string s, .int .u8 c] w fun e w' => e = .returned (.bool (hasC s c)) ∧ w' = w := by
  have hlen : s.data.toList.length = s.size := by simp
  go_enter Try.func44, Try.ntmps44
  go_wp2_with fail
  go_loopw [5] (fun t wr => ∃ j : Nat, t = .int .i64 j ∧ j ≤ s.size ∧ wr = w ∧ Hid (∀ i, (hi : i < s.data.toList.length) → i < j → (((s.data.toList[i]'hi).toNat : Int) == c) = false)) (fun t _ => s.size - (intOf t).toNat)
  case atStart => exact ⟨0, rfl, by omega, rfl, hid (fun i hi h => by omega)⟩
  case round =>
    obtain ⟨j, rfl, hj, rfl, E⟩ := hrel
    by_cases hjn : j < s.size
    · have hg : s.data.toList[j]'(by omega) = s[j]'hjn := rfl
      cases hc : (((s[j]'hjn).toNat : Int) == c)
      · have F : Hid (∀ i, (hi : i < s.data.toList.length) → i < j + 1 → (((s.data.toList[i]'hi).toNat : Int) == c) = false) := hid (fun i hi h => by
          by_cases hij : i < j
          · exact E.out i hi hij
          · obtain rfl : i = j := by omega
            rw [hg]; exact hc)
        go_wp2
        go_roundw
        case rel => exact ⟨j + 1, by go_num, by omega, trivial, F⟩
        case measure => simp [intOf]; omega
      · have F : Hid (hasC s c = true) := hid (any_at _ _ j (by omega) (by rw [hg]; exact hc))
        go_wp2
        go_ret
        exact ⟨retB F.out.symm, rfl⟩
    · have F : Hid (hasC s c = false) := hid (any_none _ _ fun i hi => E.out i hi (by omega))
      go_wp2
      go_ret
      exact ⟨retB F.out.symm, rfl⟩

set_option maxHeartbeats 1000000 in
theorem Has1 (w : World) : Calls Try.prog 43 #[.int .i64 1] w fun e w' => e = .returned (.string ⟨#[100, 105]⟩) ∧ Below w.heap.size w w' := by
  go_enter Try.func43, Try.ntmps43
  go_wp2
  go_ret
  exact ⟨rfl, (Below.refl _ _).alloc (Nat.le_refl _) _⟩

set_option maxHeartbeats 1000000 in
theorem Has2 (w : World) : Calls Try.prog 43 #[.int .i64 2] w fun e w' => e = .returned (.string ⟨#[100, 110]⟩) ∧ Below w.heap.size w w' := by
  go_enter Try.func43, Try.ntmps43
  go_wp2
  go_ret
  exact ⟨rfl, (Below.refl _ _).alloc (Nat.le_refl _) _⟩

set_option maxHeartbeats 1000000 in
theorem Has3 (w : World) : Calls Try.prog 43 #[.int .i64 3] w fun e w' => e = .returned (.string ⟨#[100, 115, 114, 110]⟩) ∧ Below w.heap.size w w' := by
  go_enter Try.func43, Try.ntmps43
  go_wp2
  go_ret
  exact ⟨rfl, (Below.refl _ _).alloc (Nat.le_refl _) _⟩

set_option maxHeartbeats 1000000 in
theorem Has4 (w : World) : Calls Try.prog 43 #[.int .i64 4] w fun e w' => e = .returned (.string ⟨#[100, 115, 120]⟩) ∧ Below w.heap.size w w' := by
  go_enter Try.func43, Try.ntmps43
  go_wp2
  go_ret
  exact ⟨rfl, (Below.refl _ _).alloc (Nat.le_refl _) _⟩

set_option maxHeartbeats 1000000 in
theorem Has5 (w : World) : Calls Try.prog 43 #[.int .i64 5] w fun e w' => e = .returned (.string ⟨#[110, 105]⟩) ∧ Below w.heap.size w w' := by
  go_enter Try.func43, Try.ntmps43
  go_wp2
  go_ret
  exact ⟨rfl, (Below.refl _ _).alloc (Nat.le_refl _) _⟩

set_option maxHeartbeats 1000000 in
theorem Has6 (w : World) : Calls Try.prog 43 #[.int .i64 6] w fun e w' => e = .returned (.string ⟨#[115, 114, 110, 105]⟩) ∧ Below w.heap.size w w' := by
  go_enter Try.func43, Try.ntmps43
  go_wp2
  go_ret
  exact ⟨rfl, (Below.refl _ _).alloc (Nat.le_refl _) _⟩

set_option maxHeartbeats 1000000 in
theorem Has7 (w : World) : Calls Try.prog 43 #[.int .i64 7] w fun e w' => e = .returned (.string ⟨#[115, 120, 105]⟩) ∧ Below w.heap.size w w' := by
  go_enter Try.func43, Try.ntmps43
  go_wp2
  go_ret
  exact ⟨rfl, (Below.refl _ _).alloc (Nat.le_refl _) _⟩

set_option maxHeartbeats 1000000 in
theorem Has8 (w : World) : Calls Try.prog 43 #[.int .i64 8] w fun e w' => e = .returned (.string ⟨#[100, 114, 110]⟩) ∧ Below w.heap.size w w' := by
  go_enter Try.func43, Try.ntmps43
  go_wp2
  go_ret
  exact ⟨rfl, (Below.refl _ _).alloc (Nat.le_refl _) _⟩

set_option maxHeartbeats 1000000 in
theorem Has9 (w : World) : Calls Try.prog 43 #[.int .i64 9] w fun e w' => e = .returned (.string ⟨#[100, 105, 110]⟩) ∧ Below w.heap.size w w' := by
  go_enter Try.func43, Try.ntmps43
  go_wp2
  go_ret
  exact ⟨rfl, (Below.refl _ _).alloc (Nat.le_refl _) _⟩

set_option maxHeartbeats 1000000 in
theorem Has10 (w : World) : Calls Try.prog 43 #[.int .i64 10] w fun e w' => e = .returned (.string ⟨#[100, 115]⟩) ∧ Below w.heap.size w w' := by
  go_enter Try.func43, Try.ntmps43
  go_wp2
  go_ret
  exact ⟨rfl, (Below.refl _ _).alloc (Nat.le_refl _) _⟩

set_option maxHeartbeats 1000000 in
theorem Has11 (w : World) : Calls Try.prog 43 #[.int .i64 11] w fun e w' => e = .returned (.string ⟨#[105]⟩) ∧ Below w.heap.size w w' := by
  go_enter Try.func43, Try.ntmps43
  go_wp2
  go_ret
  exact ⟨rfl, (Below.refl _ _).alloc (Nat.le_refl _) _⟩

set_option maxHeartbeats 1000000 in
theorem Has12 (w : World) : Calls Try.prog 43 #[.int .i64 12] w fun e w' => e = .returned (.string ⟨#[105]⟩) ∧ Below w.heap.size w w' := by
  go_enter Try.func43, Try.ntmps43
  go_wp2
  go_ret
  exact ⟨rfl, (Below.refl _ _).alloc (Nat.le_refl _) _⟩

set_option maxHeartbeats 1000000 in
theorem Has13 (w : World) : Calls Try.prog 43 #[.int .i64 13] w fun e w' => e = .returned (.string ⟨#[116]⟩) ∧ Below w.heap.size w w' := by
  go_enter Try.func43, Try.ntmps43
  go_wp2
  go_ret
  exact ⟨rfl, (Below.refl _ _).alloc (Nat.le_refl _) _⟩

set_option maxHeartbeats 1000000 in
theorem Has14 (w : World) : Calls Try.prog 43 #[.int .i64 14] w fun e w' => e = .returned (.string ⟨#[116, 105]⟩) ∧ Below w.heap.size w w' := by
  go_enter Try.func43, Try.ntmps43
  go_wp2
  go_ret
  exact ⟨rfl, (Below.refl _ _).alloc (Nat.le_refl _) _⟩

set_option maxHeartbeats 1000000 in
theorem Has15 (w : World) : Calls Try.prog 43 #[.int .i64 15] w fun e w' => e = .returned (.string ⟨#[110]⟩) ∧ Below w.heap.size w w' := by
  go_enter Try.func43, Try.ntmps43
  go_wp2
  go_ret
  exact ⟨rfl, (Below.refl _ _).alloc (Nat.le_refl _) _⟩

set_option maxHeartbeats 1000000 in
theorem Has16 (w : World) : Calls Try.prog 43 #[.int .i64 16] w fun e w' => e = .returned (.string ⟨#[110]⟩) ∧ Below w.heap.size w w' := by
  go_enter Try.func43, Try.ntmps43
  go_wp2
  go_ret
  exact ⟨rfl, (Below.refl _ _).alloc (Nat.le_refl _) _⟩

set_option maxHeartbeats 1000000 in
theorem Has17 (w : World) : Calls Try.prog 43 #[.int .i64 17] w fun e w' => e = .returned (.string ⟨#[]⟩) ∧ Below w.heap.size w w' := by
  go_enter Try.func43, Try.ntmps43
  go_wp2
  go_ret
  exact ⟨rfl, (Below.refl _ _).alloc (Nat.le_refl _) _⟩

set_option maxHeartbeats 1000000 in
theorem Has_out (op : Int) (w : World) (h : op < 1 ∨ 17 < op) : Calls Try.prog 43 #[.int .i64 op] w fun e w' => e = .returned (.string ⟨#[63]⟩) ∧ Below w.heap.size w w' := by
  by_cases h1 : op < 1
  · go_enter Try.func43, Try.ntmps43
    go_wp2
    go_ret
    exact ⟨rfl, (Below.refl _ _).alloc (Nat.le_refl _) _⟩
  · have h2 : (18 : Int) ≤ op := by omega
    have h3 : 1 ≤ op := by omega
    clear h h1
    go_enter Try.func43, Try.ntmps43
    go_wp2
    go_ret
    exact ⟨rfl, (Below.refl _ _).alloc (Nat.le_refl _) _⟩

end Go.Proofs.Ytjjfhjelkioehaa
