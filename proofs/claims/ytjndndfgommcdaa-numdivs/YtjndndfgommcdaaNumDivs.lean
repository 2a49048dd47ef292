/- The law padlocklaw01.NumDivs answers true at every input: a quotient, times what divided, and the rest are the number; the rest has its sign, and is less than what divided. No conditions. -/
import Derived.Test.YtjndndfgommcdaaRows
import Derived.Test.YtjndndfgommcdaaReals
import Derived.WalkKit
import Derived.ProofKit
import Derived.OpenShut
namespace Go.Proofs.Ytjndndfgommcdaa.numDivs
open Go.ChangeShapes Go.WideShapes Go.ChangeAt Go.RowKit
set_option linter.unusedVariables false

theorem own : ownKnob Try.prog.godebug = none := by kernel_rfl

theorem q0 (a : Int) : intI 3 a 0 = 0 := by simp [intI, divI]
theorem r0 (a : Int) : intI 4 a 0 = 0 := by simp [intI, divI]
theorem qb (b : Int) (h : b ≠ 0) : intB 3 b = true := by simp [intB, h]
theorem rb (b : Int) (h : b ≠ 0) : intB 4 b = true := by simp [intB, h]
theorem qn (a b : Int) (h : b ≠ 0) : intI 3 a b = wrap64 (a.tdiv b) := by simp [intI, divI, h]
theorem rn (a b : Int) (h : b ≠ 0) : intI 4 a b = a.tmod b := by simp [intI, divI, h]

theorem wrap_mod (x : Int) : ∃ k, wrap64 x = x + 18446744073709551616 * k := ⟨-((x + 9223372036854775808) / 18446744073709551616), by unfold wrap64; omega⟩
theorem wrap_add (x k : Int) : wrap64 (x + 18446744073709551616 * k) = wrap64 x := by unfold wrap64; omega

theorem back (a b : Int) (h0 : -9223372036854775808 ≤ a) (h1 : a ≤ 9223372036854775807) : wrap64 (wrap64 (wrap64 (a.tdiv b) * b) + a.tmod b) = a := by
  obtain ⟨k, hk⟩ := wrap_mod (a.tdiv b)
  obtain ⟨m, hm⟩ := wrap_mod (wrap64 (a.tdiv b) * b)
  have e := Int.tdiv_mul_add_tmod a b
  have e2 : wrap64 (a.tdiv b) * b = a.tdiv b * b + 18446744073709551616 * (k * b) := by rw [hk, Int.add_mul, Int.mul_assoc]
  rw [hm, e2, show a.tdiv b * b + 18446744073709551616 * (k * b) + 18446744073709551616 * m + a.tmod b = a + 18446744073709551616 * (k * b + m) by omega, wrap_add, wrap64_is _ ⟨h0, h1⟩]

/-- The rest: of the sign of what is divided, less than what divides. -/
theorem rest (a b : Int) (h : b ≠ 0) : ((0 < a.tmod b ∧ 0 < a) ∨ (a.tmod b < 0 ∧ a < 0) ∨ (0 ≤ a.tmod b ∧ a.tmod b ≤ 0)) ∧ ((0 < b ∧ a.tmod b < b ∧ -b < a.tmod b) ∨ (b < 0 ∧ b < a.tmod b ∧ a.tmod b < -b)) := by
  have h4 : (a.tmod b).natAbs = a.natAbs % b.natAbs := Int.natAbs_tmod a b
  have h5 : a.natAbs % b.natAbs < b.natAbs := Nat.mod_lt _ (by omega)
  have h6 : a.natAbs % b.natAbs ≤ a.natAbs := Nat.mod_le _ _
  rcases Int.le_total 0 a with hp | hp
  · have := Int.tmod_nonneg b hp
    omega
  · have := Int.tmod_nonneg b (a := -a) (by omega)
    rw [Int.neg_tmod] at this
    omega

theorem walk (a0 : Int) (a1 : Int) (w0 : (Lit.int .i64 a0).wf = true) (w1 : (Lit.int .i64 a1).wf = true) (w : World) :
    Calls Try.prog 9 #[.int .i64 a0, .int .i64 a1] w fun e w' => e = .returned (.bool true) ∧ Grown w w' := by
  have b0 := bounds_i64 w0
  have b1 := bounds_i64 w1
  by_cases hb : a1 = 0
  · subst hb
    go_enter Try.func9, Try.ntmps9
    go_wp2_with fail
    refine (alive_any _).mono ?_
    rintro e w' ⟨rfl, n, rfl⟩
    go_wp2_with fail
    refine (int_any _ _ _ _).mono ?_
    rintro e w' ⟨rfl, rfl⟩
    rw [q0, show intB 3 0 = false from rfl]
    go_wp2_with fail
    refine (int_any _ _ _ _).mono ?_
    rintro e w' ⟨rfl, rfl⟩
    rw [r0, show intB 4 0 = false from rfl]
    go_wp2
    go_ret
    exact ⟨rfl, Grown.refl w⟩
  · have hz : (a1 == 0) = false := by simp [hb]
    have hs := back a0 a1 b0.1 b0.2
    have hr := rest a0 a1 hb
    go_enter Try.func9, Try.ntmps9
    go_wp2_with fail
    refine (alive_any _).mono ?_
    rintro e w' ⟨rfl, n, rfl⟩
    go_wp2_with fail
    refine (int_any _ _ _ _).mono ?_
    rintro e w' ⟨rfl, rfl⟩
    rw [qn _ _ hb, qb _ hb]
    go_wp2_with fail
    refine (int_any _ _ _ _).mono ?_
    rintro e w' ⟨rfl, rfl⟩
    rw [rn _ _ hb, rb _ hb]
    generalize wrap64 (a0.tdiv a1) = q at *
    generalize a0.tmod a1 = r at *
    have hs' : (wrap64 (wrap64 (q * a1) + r) != a0) = false := by simp [hs]
    clear hs
    obtain ⟨hr1, hr2⟩ := hr
    rcases hr2 with ⟨k1, k2, k3⟩ | ⟨k1, k2, k3⟩
    · rcases hr1 with ⟨s1, s2⟩ | ⟨s1, s2⟩ | ⟨s1, s2⟩
      all_goals
        go_wp2
        go_ret
        exact ⟨rfl, Grown.refl w⟩
    · by_cases hm : a1 = -9223372036854775808
      · have hm' : (a1 == -9223372036854775808) = true := by simp [hm]
        clear hm
        rcases hr1 with ⟨s1, s2⟩ | ⟨s1, s2⟩ | ⟨s1, s2⟩
        all_goals
          go_wp2
          go_ret
          exact ⟨rfl, Grown.refl w⟩
      · have hm' : (a1 == -9223372036854775808) = false := by simp [hm]
        have hm2 : -9223372036854775808 < a1 := by omega
        clear hm
        rcases hr1 with ⟨s1, s2⟩ | ⟨s1, s2⟩ | ⟨s1, s2⟩
        all_goals
          go_wp2
          go_ret
          exact ⟨rfl, Grown.refl w⟩

set_option maxRecDepth 100000 in
theorem lifted (os : Os) (started : os.Started) (H : Type) (enc : TypeId × Value → H) :
    ReturnsInHanded {} Try.checked os 9 .any (Rows.numDivsSpec.pre6 enc Try.prog Try.f9 Rows.numDivsRow.domain false) (Rows.numDivsSpec.post enc Try.prog Try.f9 false true false false) := by
  refine returnsInHanded_of_change (C := Try.checked) own started (by kernel_rfl) Try.func9
    (ChangeSpec.witness6 (enc := enc) (C := Try.checked) false ⟨#[], #[.int .i64 0, .int .i64 0], []⟩ 8 (by kernel_rfl) (by kernel_rfl) (by kernel_rfl) (by kernel_rfl)) ?_
  intro W base args ds gs before hval0 hW hcnd _
  have hval : ∀ (j : Nat) t v, Try.f9.params[j]? = some t → args[j]? = some v → Value.okWide Try.prog W .any base t v := hval0
  have hW' := hW
  obtain ⟨p, q, hA0, hV, rfl, hfz, hnd⟩ := hW
  have hA : DataW.TrodAll enc Try.prog W 0 (fun _ => true) true Try.f9.params.toList args.toList ds p := hA0
  rw [Try.params9] at hA hval
  obtain ⟨v0, vs0, d0, ds0, p0, q0, hargs, rfl, rfl, h0, r0⟩ := trodAll_cons hA
  obtain ⟨v1, vs1, d1, ds1, p1, q1, rfl, rfl, rfl, h1, r1⟩ := trodAll_cons r0
  obtain ⟨rfl, rfl, rfl⟩ := trodAll_nil r1
  obtain rfl : args = #[v0, v1] := by cases args; simp_all
  obtain ⟨rfl, rfl⟩ := trodVars_none hV
  obtain ⟨a0, rfl, rfl, rfl, w0⟩ := open_int Try.underlying3 (hval 0 3 v0 rfl rfl) h0
  obtain ⟨a1, rfl, rfl, rfl, w1⟩ := open_int Try.underlying3 (hval 1 3 v1 rfl rfl) h1
  clear hA0 hval0
  simp only [List.append_nil] at hW'
  refine (walk a0 a1 w0 w1 W).mono fun e W' ⟨he, hg⟩ => ?_
  subst he
  exact ⟨_, rfl, post_of_same (pa := []) (pv := []) hW' (fun _ _ _ => (trodAll_cons_mk (shut_bool Try.underlying4 _) trodAll_mk0)) (fun sp _ => (trodAll_cons_mk (shut_int Try.underlying3 w0) (trodAll_cons_mk (shut_int Try.underlying3 w1) trodAll_mk0))) (fun _ _ => rfl) rfl
    (hg.frame _) hg.2.1 (ok_one (by kernel_rfl) rfl (okWide_bool_mk Try.underlying4 _))⟩

theorem over : Rows.numDivsRow.holds Try.pinned (OpenSpec.ofChange Rows.numDivsSpec) :=
  OpenClaim.holds_of_wide 9 Try.f9 rfl rfl rfl rfl rfl rfl rfl ⟨rfl, rfl, rfl, rfl, rfl⟩ rfl rfl rfl rfl rfl (by kernel_rfl) Try.func9 (by kernel_rfl)
    (of_decide_eq_true (by kernel_rfl)) (by unfold Func.isWrapper; first | (rw [if_pos (by decide +kernel)]; kernel_rfl) | (rw [if_neg (by decide +kernel)]; exact ⟨rfl, rfl⟩))
    (fun os started H enc _ => lifted os started H enc)

theorem proved : Rows.NumDivsSaid :=
  over
end Go.Proofs.Ytjndndfgommcdaa.numDivs
