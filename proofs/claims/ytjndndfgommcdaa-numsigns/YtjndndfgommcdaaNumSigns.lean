/- The law padlocklaw01.NumSigns answers true at every input: to take away is to add the opposite, to the sign of nought; a sign turned twice is as it was; sums and products don't hang on the order. No conditions. -/
import Derived.Test.YtjndndfgommcdaaRows
import Derived.Test.YtjndndfgommcdaaReals
import Derived.WalkKit
import Derived.ProofKit
import Derived.OpenShut
namespace Go.Proofs.Ytjndndfgommcdaa.numSigns
open Go.ChangeShapes Go.WideShapes Go.ChangeAt Go.RowKit
set_option linter.unusedVariables false

theorem own : ownKnob Try.prog.godebug = none := by kernel_rfl

theorem sum_comm (d e : Ieee.Datum) : d.sum e = e.sum d := by
  cases d <;> cases e <;> simp only [Ieee.Datum.sum]
  · rename_i s m i t n j
    rw [Int.min_comm j i, Int.add_comm, Bool.and_comm]
  · rename_i s t
    by_cases h : s = t
    · subst h; rfl
    · rw [if_neg h, if_neg (fun h' => h h'.symm)]

theorem product_comm (d e : Ieee.Datum) : d.product e = e.product d := by
  cases d <;> cases e <;> simp only [Ieee.Datum.product]
  · rename_i s m i t n j
    rw [Nat.mul_comm, Int.add_comm, Bool.xor_comm]
  · rename_i s t
    rw [Bool.xor_comm]

theorem add_comm (x y : Nat) : floatBits .add .f64 x y = floatBits .add .f64 y x := by
  simp only [floatBits, Ieee.Format.add, sum_comm]
theorem mul_comm (x y : Nat) : floatBits .mul .f64 x y = floatBits .mul .f64 y x := by
  simp only [floatBits, Ieee.Format.mul, product_comm]

theorem flip_mod (a : Int) (h0 : 0 ≤ a) (h1 : a ≤ 18446744073709551615) : (flipI a).toNat % 9223372036854775808 = a.toNat % 9223372036854775808 := by
  unfold flipI; split <;> omega
theorem flip_div (a : Int) (h0 : 0 ≤ a) (h1 : a ≤ 18446744073709551615) : ((flipI a).toNat / 9223372036854775808 % 2 == 1) = !(a.toNat / 9223372036854775808 % 2 == 1) := by
  rw [Bool.eq_iff_iff]
  unfold flipI
  split <;> simp <;> omega
theorem flip_nan (a : Int) (h0 : 0 ≤ a) (h1 : a ≤ 18446744073709551615) : nanB (flipI a).toNat = nanB a.toNat := by
  unfold nanB; rw [flip_mod a h0 h1]
theorem flip_in (a : Int) (h0 : 0 ≤ a) (h1 : a ≤ 18446744073709551615) : 0 ≤ flipI a ∧ flipI a ≤ 18446744073709551615 := by
  unfold flipI; split <;> omega
theorem flip_flip (a : Int) (h0 : 0 ≤ a) (h1 : a ≤ 18446744073709551615) : flipI (flipI a) = a := by
  unfold flipI; split <;> split <;> omega

theorem flip_read (a : Int) (h0 : 0 ≤ a) (h1 : a ≤ 18446744073709551615) (h : nanB a.toNat = false) : FloatKind.f64.format.read (flipI a).toNat = (FloatKind.f64.format.read a.toNat).opposite := by
  simp only [nanB, decide_eq_false_iff_not] at h
  by_cases hi : a.toNat % 9223372036854775808 = 9218868437227405312
  · rw [read_inf _ hi, read_inf _ (by rw [flip_mod a h0 h1]; exact hi), flip_div a h0 h1]; rfl
  · have hl : a.toNat % 9223372036854775808 < 9218868437227405312 := by omega
    rw [read_num _ hl, read_num _ (by rw [flip_mod a h0 h1]; exact hl), flip_div a h0 h1, flip_mod a h0 h1]; rfl

theorem sub_add (x : Nat) (b : Int) (h0 : 0 ≤ b) (h1 : b ≤ 18446744073709551615) (h : nanB b.toNat = false) : floatBits .sub .f64 x b.toNat = floatBits .add .f64 x (flipI b).toNat := by
  simp only [floatBits, Ieee.Format.add, Ieee.Format.sub, flip_read b h0 h1 h]

theorem sub_nan (x y : Nat) (h : nanB y = true) : floatBits .sub .f64 x y = none := by
  obtain ⟨s, t, e⟩ := read_nan y h
  simp only [floatBits, Ieee.Format.sub, e]; cases FloatKind.f64.format.read x <;> rfl
theorem add_nan (x y : Nat) (h : nanB y = true) : floatBits .add .f64 x y = none := by
  obtain ⟨s, t, e⟩ := read_nan y h
  simp only [floatBits, Ieee.Format.add, e]; cases FloatKind.f64.format.read x <;> rfl

/-- The bits with the other sign, tidied. -/
def negI (a : Int) : Int := if nanB a.toNat then 9221120237041090560 else flipI a
theorem negI_in (a : Int) (h0 : 0 ≤ a) (h1 : a ≤ 18446744073709551615) : 0 ≤ negI a ∧ negI a ≤ 18446744073709551615 := by
  have := flip_in a h0 h1
  unfold negI; split <;> omega
theorem neg_is (a : Int) (w : World) (h0 : 0 ≤ a) (h1 : a ≤ 18446744073709551615) : Calls Try.prog 18 #[.int .u64 a] w fun e w' => e = .returned (.int .u64 (negI a)) ∧ w' = w := neg_any a w h0 h1
/-- Tidied bits. -/
def tidyI (a : Int) : Int := if nanB a.toNat then 9221120237041090560 else a
theorem tidy_is (a : Int) (w : World) : Calls Try.prog 16 #[.int .u64 a] w fun e w' => e = .returned (.int .u64 (tidyI a)) ∧ w' = w := tidy_any a w
theorem neg_neg (a : Int) (h0 : 0 ≤ a) (h1 : a ≤ 18446744073709551615) : negI (negI a) = tidyI a := by
  unfold negI tidyI
  cases h : nanB a.toNat
  · simp only [Bool.false_eq_true, if_false]
    rw [flip_nan a h0 h1, h, flip_flip a h0 h1]; rfl
  · simp only [if_true]
    rw [if_pos (by decide)]
theorem less_is_add (x : Nat) (b : Int) (h0 : 0 ≤ b) (h1 : b ≤ 18446744073709551615) : floatBits .sub .f64 x b.toNat = floatBits .add .f64 x (negI b).toNat := by
  unfold negI
  cases h : nanB b.toNat
  · exact sub_add x b h0 h1 h
  · rw [sub_nan _ _ h, if_pos rfl, add_nan _ _ (by decide)]

theorem walk (a0 : Int) (a1 : Int) (w0 : (Lit.int .u64 a0).wf = true) (w1 : (Lit.int .u64 a1).wf = true) (w : World) :
    Calls Try.prog 7 #[.int .u64 a0, .int .u64 a1] w fun e w' => e = .returned (.bool true) ∧ Grown w w' := by
  have b0 := bounds_u64 w0
  have b1 := bounds_u64 w1
  have n1 := negI_in a1 b1.1 b1.2
  have n0 := negI_in a0 b0.1 b0.2
  go_enter Try.func7, Try.ntmps7
  go_wp2_with fail
  refine (alive_any _).mono ?_
  rintro e w' ⟨rfl, n, rfl⟩
  go_wp2_with fail
  refine (real_sub _ _ _).mono ?_
  rintro e w' ⟨rfl, m1, rfl⟩
  rw [less_is_add _ _ b1.1 b1.2]
  go_wp2_with fail
  refine (neg_is _ _ b1.1 b1.2).mono ?_
  rintro e w' ⟨rfl, rfl⟩
  go_wp2_with fail
  refine (real_add _ _ _).mono ?_
  rintro e w' ⟨rfl, m2, rfl⟩
  go_wp2_with fail
  refine (neg_is _ _ b0.1 b0.2).mono ?_
  rintro e w' ⟨rfl, rfl⟩
  go_wp2_with fail
  refine (neg_is _ _ n0.1 n0.2).mono ?_
  rintro e w' ⟨rfl, rfl⟩
  rw [neg_neg _ b0.1 b0.2]
  go_wp2_with fail
  refine (tidy_is _ _).mono ?_
  rintro e w' ⟨rfl, rfl⟩
  go_wp2_with fail
  refine (real_mul _ _ _).mono ?_
  rintro e w' ⟨rfl, m3, rfl⟩
  go_wp2_with fail
  refine (real_mul _ _ _).mono ?_
  rintro e w' ⟨rfl, m4, rfl⟩
  rw [mul_comm a1.toNat]
  go_wp2_with fail
  refine (real_add _ _ _).mono ?_
  rintro e w' ⟨rfl, m5, rfl⟩
  go_wp2_with fail
  refine (real_add _ _ _).mono ?_
  rintro e w' ⟨rfl, m6, rfl⟩
  rw [add_comm a1.toNat]
  go_wp2
  go_ret
  exact ⟨rfl, Grown.refl w⟩

set_option maxRecDepth 100000 in
theorem lifted (os : Os) (started : os.Started) (H : Type) (enc : TypeId × Value → H) :
    ReturnsInHanded {} Try.checked os 7 .any (Rows.numSignsSpec.pre6 enc Try.prog Try.f7 Rows.numSignsRow.domain false) (Rows.numSignsSpec.post enc Try.prog Try.f7 false true false false) := by
  refine returnsInHanded_of_change (C := Try.checked) own started (by kernel_rfl) Try.func7
    (ChangeSpec.witness6 (enc := enc) (C := Try.checked) false ⟨#[], #[.int .u64 0, .int .u64 0], []⟩ 8 (by kernel_rfl) (by kernel_rfl) (by kernel_rfl) (by kernel_rfl)) ?_
  intro W base args ds gs before hval0 hW hcnd _
  have hval : ∀ (j : Nat) t v, Try.f7.params[j]? = some t → args[j]? = some v → Value.okWide Try.prog W .any base t v := hval0
  have hW' := hW
  obtain ⟨p, q, hA0, hV, rfl, hfz, hnd⟩ := hW
  have hA : DataW.TrodAll enc Try.prog W 0 (fun _ => true) true Try.f7.params.toList args.toList ds p := hA0
  rw [Try.params7] at hA hval
  obtain ⟨v0, vs0, d0, ds0, p0, q0, hargs, rfl, rfl, h0, r0⟩ := trodAll_cons hA
  obtain ⟨v1, vs1, d1, ds1, p1, q1, rfl, rfl, rfl, h1, r1⟩ := trodAll_cons r0
  obtain ⟨rfl, rfl, rfl⟩ := trodAll_nil r1
  obtain rfl : args = #[v0, v1] := by cases args; simp_all
  obtain ⟨rfl, rfl⟩ := trodVars_none hV
  obtain ⟨a0, rfl, rfl, rfl, w0⟩ := open_int Try.underlying28 (hval 0 28 v0 rfl rfl) h0
  obtain ⟨a1, rfl, rfl, rfl, w1⟩ := open_int Try.underlying28 (hval 1 28 v1 rfl rfl) h1
  clear hA0 hval0
  simp only [List.append_nil] at hW'
  refine (walk a0 a1 w0 w1 W).mono fun e W' ⟨he, hg⟩ => ?_
  subst he
  exact ⟨_, rfl, post_of_same (pa := []) (pv := []) hW' (fun _ _ _ => (trodAll_cons_mk (shut_bool Try.underlying4 _) trodAll_mk0)) (fun sp _ => (trodAll_cons_mk (shut_int Try.underlying28 w0) (trodAll_cons_mk (shut_int Try.underlying28 w1) trodAll_mk0))) (fun _ _ => rfl) rfl
    (hg.frame _) hg.2.1 (ok_one (by kernel_rfl) rfl (okWide_bool_mk Try.underlying4 _))⟩

theorem over : Rows.numSignsRow.holds Try.pinned (OpenSpec.ofChange Rows.numSignsSpec) :=
  OpenClaim.holds_of_wide 7 Try.f7 rfl rfl rfl rfl rfl rfl rfl ⟨rfl, rfl, rfl, rfl, rfl⟩ rfl rfl rfl rfl rfl (by kernel_rfl) Try.func7 (by kernel_rfl)
    (of_decide_eq_true (by kernel_rfl)) (by unfold Func.isWrapper; first | (rw [if_pos (by decide +kernel)]; kernel_rfl) | (rw [if_neg (by decide +kernel)]; exact ⟨rfl, rfl⟩))
    (fun os started H enc _ => lifted os started H enc)

theorem proved : Rows.NumSignsSaid :=
  over
end Go.Proofs.Ytjndndfgommcdaa.numSigns
