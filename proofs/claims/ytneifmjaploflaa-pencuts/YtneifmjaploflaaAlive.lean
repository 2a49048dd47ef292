/- The contract of the laws' own question whether there is an answer at all. -/
import Derived.Test.YtneifmjaploflaaPens
namespace Go.Proofs.Ytneifmjaploflaa
open Go.ChangeShapes Go.WideShapes Go.ChangeAt Go.RowKit
open PenMath
set_option linter.unusedVariables false

theorem natB_300 : natB 300 = [172, 2] := by
  rw [natB_ge 300 (by decide), natB_lt (300 / 128) (by decide)]; decide
theorem natB_1 : natB (zz (-1)) = [1] := by
  rw [show zz (-1) = 1 from rfl, natB_lt 1 (by decide)]; decide
theorem alive_nat : (Eye.mk [172, 2, 1] false).nat 300 = (300, ⟨[1], false⟩) := by
  have := Eye.nat_back 300 [1] 300 (by decide) (by decide)
  rw [natB_300] at this
  exact this
theorem alive_int : (Eye.mk [1] false).int = (-1, ⟨[], false⟩) := by
  have := Eye.nat_back 1 [] 18446744073709551615 (by decide) (by decide)
  rw [natB_lt 1 (by decide)] at this
  unfold Eye.int
  rw [show [1] = [UInt8.ofNat 1] ++ [] from rfl, this]
  rfl

set_option maxRecDepth 100000 in
set_option maxHeartbeats 400000 in
theorem alive_any (w : World) : Calls Try.prog 9 #[] w fun r w' => r = .returned (.bool true) ∧ Below w.heap.size w w' := by
  go_enter Try.func9, Try.ntmps9
  go_wp2_with fail
  have hn := pen_new (w.alloc (.cells #[.slice none 0 0] 26)) (w.heap.size + 1) w.heap.size (heap_alloc_new _ _) (by omega) (by simp)
  refine (penNat_int _ _ _ _ _ _ hn (by decide) (by decide) (by simp)).mono ?_
  rintro r w1 ⟨rfl, v1, h1, t1, l1⟩
  go_wp2_with fail
  refine (penInt_any _ _ _ _ _ _ h1 (by decide) (by decide) (by rw [show (300 : Int).toNat = 300 from rfl, natB_300]; simp)).mono ?_
  rintro r w2 ⟨rfl, v2, h2, t2, l2⟩
  rw [show (300 : Int).toNat = 300 from rfl, natB_300, natB_1] at h2
  have t3 := touch_own t1 l1 t2
  have b3 : Below w.heap.size w w2 := by
    refine ((Below.refl _ _).alloc (Nat.le_refl _) _).trans (t3.below (by simp) ?_)
    intro k hk
    rcases hk with rfl | hk
    · exact Nat.le_refl _
    · simp [Value.ownBlock] at hk
  have B3 : Hid (Below w.heap.size w w2) := b3
  have H2 : Hid (PenAt (w.heap.size + 1) w2 w.heap.size v2 ([] ++ [172, 2] ++ [1])) := h2
  clear h1 t1 l1 t2 l2 t3 b3 hn h2
  go_wp2_with fail
  refine (penBytes_any _ _ _ _ _ H2.out).mono ?_
  rintro r w' ⟨rfl, rfl⟩
  go_wp2_with fail
  refine (of_any _ _).mono ?_
  rintro r w3 ⟨rfl, e3, b4, s4⟩
  have H3 := H2.out.kept (Touch.of_below b4 (F := fun _ => False)) (fun _ _ h => h)
  go_wp2_with fail
  refine (penBytes_any _ _ _ _ _ H3).mono ?_
  rintro r w' ⟨rfl, rfl⟩
  rw [show bstr ([] ++ [172, 2] ++ [1]) = ⟨#[172, 2, 1]⟩ from rfl]
  clear H3
  go_wp2_with fail
  refine (eyeNat_int _ _ _ _ e3 (by simp [maxLen]) (by decide)).mono ?_
  rintro r w4 ⟨rfl, e4, t4⟩
  rw [show (300 : Int).toNat = 300 from rfl, alive_nat] at e4 ⊢
  go_wp2_with fail
  refine (eyeInt_any _ _ _ e4 (by simp [maxLen])).mono ?_
  rintro r w5 ⟨rfl, e5, t5⟩
  rw [alive_int] at e5 ⊢
  go_wp2_with fail
  refine (done_any _ _ _ e5).mono ?_
  rintro r w6 ⟨rfl, rfl⟩
  have F : Hid (Below w.heap.size w w6) := by
    have hs := B3.out.size
    refine B3.out.trans ((b4.mono hs).trans ?_)
    refine (t4.trans t5).below (by have := b4.size; omega) ?_
    rintro k rfl
    exact hs
  clear e3 b4 e4 t4 e5 t5 B3 H2
  go_wp2
  go_ret
  exact ⟨rfl, F.out⟩
end Go.Proofs.Ytneifmjaploflaa
