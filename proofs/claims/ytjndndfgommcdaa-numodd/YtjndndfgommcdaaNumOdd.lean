/- The law padlocklaw01.NumOdd answers true at every input: what is no number stays no number, whatever is reckoned with it, and has just one row of bits. No conditions. -/
import Derived.Test.YtjndndfgommcdaaRows
import Derived.Test.YtjndndfgommcdaaReals
import Derived.WalkKit
import Derived.ProofKit
import Derived.OpenShut
namespace Go.Proofs.Ytjndndfgommcdaa.numOdd
open Go.ChangeShapes Go.WideShapes Go.ChangeAt Go.RowKit
set_option linter.unusedVariables false

theorem own : ownKnob Try.prog.godebug = none := by kernel_rfl

theorem sum_nan_l (x y : Nat) (h : nanB x = true) : floatBits .add .f64 x y = none ∧ floatBits .sub .f64 x y = none ∧ floatBits .mul .f64 x y = none ∧ floatBits .quo .f64 x y = none := by
  obtain ⟨s, t, e⟩ := read_nan x h
  refine ⟨?_, ?_, ?_, ?_⟩
  · simp only [floatBits, Ieee.Format.add, e]; rfl
  · simp only [floatBits, Ieee.Format.sub, e]; rfl
  · simp only [floatBits, Ieee.Format.mul, e]; rfl
  · simp only [floatBits, Ieee.Format.div, e]; rfl

theorem sum_nan_r (x y : Nat) (h : nanB y = true) : floatBits .add .f64 x y = none ∧ floatBits .sub .f64 x y = none ∧ floatBits .mul .f64 x y = none ∧ floatBits .quo .f64 x y = none := by
  obtain ⟨s, t, e⟩ := read_nan y h
  refine ⟨?_, ?_, ?_, ?_⟩
  · simp only [floatBits, Ieee.Format.add, e]; cases FloatKind.f64.format.read x <;> rfl
  · simp only [floatBits, Ieee.Format.sub, e]; cases FloatKind.f64.format.read x <;> rfl
  · simp only [floatBits, Ieee.Format.mul, e]; cases FloatKind.f64.format.read x <;> rfl
  · simp only [floatBits, Ieee.Format.div, e]; cases FloatKind.f64.format.read x <;> rfl

theorem real_nan (op a b : Int) (w : World) (h : nanB a.toNat = true ∨ nanB b.toNat = true) (h0 : 0 ≤ op) (h4 : op ≤ 4) :
    Calls Try.prog 14 #[.int .i64 op, .int .u64 a, .int .u64 b] w fun e w' => e = .returned (.int .u64 9221120237041090560) ∧ ∃ n, w' = w.drewN n := by
  have hs : floatBits .add .f64 a.toNat b.toNat = none ∧ floatBits .sub .f64 a.toNat b.toNat = none ∧ floatBits .mul .f64 a.toNat b.toNat = none ∧ floatBits .quo .f64 a.toNat b.toNat = none := by
    rcases h with h | h
    · exact sum_nan_l _ _ h
    · exact sum_nan_r _ _ h
  have : op = 0 ∨ op = 1 ∨ op = 2 ∨ op = 3 ∨ op = 4 := by omega
  rcases this with rfl | rfl | rfl | rfl | rfl
  · have := real_add a b w
    rw [hs.1] at this
    exact this
  · have := real_sub a b w
    rw [hs.2.1] at this
    exact this
  · have := real_mul a b w
    rw [hs.2.2.1] at this
    exact this
  · have := real_quo a b w
    rw [hs.2.2.2] at this
    exact this
  · exact (real_rem a b w).mono fun e w' ⟨he, hw⟩ => ⟨he, 0, hw⟩

/-- The op is none of the five. -/
def op_out (op : Int) : Bool := decide (op < 0 ∨ 4 < op)

theorem walk (a0 : Int) (a1 : Int) (a2 : Int) (w0 : (Lit.int .i64 a0).wf = true) (w1 : (Lit.int .u64 a1).wf = true) (w2 : (Lit.int .u64 a2).wf = true) (w : World) :
    Calls Try.prog 6 #[.int .i64 a0, .int .u64 a1, .int .u64 a2] w fun e w' => e = .returned (.bool true) ∧ Grown w w' := by
  have b0 := bounds_i64 w0
  have b1 := bounds_u64 w1
  have b2 := bounds_u64 w2
  cases hn : nanB a1.toNat
  · go_enter Try.func6, Try.ntmps6
    go_wp2_with fail
    refine (alive_any _).mono ?_
    rintro e w' ⟨rfl, n, rfl⟩
    go_wp2_with fail
    refine (odd_any _ _ b1.1 b1.2).mono ?_
    rintro e w' ⟨rfl, rfl⟩
    rw [hn]
    go_wp2
    go_ret
    exact ⟨rfl, Grown.refl w⟩
  · by_cases hop : op_out a0 = true
    · rw [op_out, decide_eq_true_eq] at hop
      rcases hop with hop | hop
      all_goals
        go_enter Try.func6, Try.ntmps6
        go_wp2_with fail
        refine (alive_any _).mono ?_
        rintro e w' ⟨rfl, n, rfl⟩
        go_wp2_with fail
        refine (odd_any _ _ b1.1 b1.2).mono ?_
        rintro e w' ⟨rfl, rfl⟩
        rw [hn]
        go_wp2
        go_ret
        exact ⟨rfl, Grown.refl w⟩
    · rw [op_out, decide_eq_true_eq] at hop
      have h0 : 0 ≤ a0 := by omega
      have h4 : a0 ≤ 4 := by omega
      clear hop
      have ht : truncZ a1.toNat = 0 := by unfold truncZ; rw [hn, if_pos rfl]
      go_enter Try.func6, Try.ntmps6
      go_wp2_with fail
      refine (alive_any _).mono ?_
      rintro e w' ⟨rfl, n, rfl⟩
      go_wp2_with fail
      refine (odd_any _ _ b1.1 b1.2).mono ?_
      rintro e w' ⟨rfl, rfl⟩
      rw [hn]
      go_wp2_with fail
      refine (real_nan _ _ _ _ (Or.inl hn) h0 h4).mono ?_
      rintro e w' ⟨rfl, n1, rfl⟩
      go_wp2_with fail
      refine (real_nan _ _ _ _ (Or.inr hn) h0 h4).mono ?_
      rintro e w' ⟨rfl, n2, rfl⟩
      go_wp2_with fail
      refine (tidy_any _ _).mono ?_
      rintro e w' ⟨rfl, rfl⟩
      rw [hn, if_pos rfl]
      go_wp2_with fail
      refine (neg_any _ _ b1.1 b1.2).mono ?_
      rintro e w' ⟨rfl, rfl⟩
      rw [hn, if_pos rfl]
      go_wp2_with fail
      refine (trunc_any _ _).mono ?_
      rintro e w' ⟨rfl, rfl⟩
      rw [ht]
      go_wp2
      go_ret
      exact ⟨rfl, Grown.refl w⟩

set_option maxRecDepth 100000 in
theorem lifted (os : Os) (started : os.Started) (H : Type) (enc : TypeId × Value → H) :
    ReturnsInHanded {} Try.checked os 6 .any (Rows.numOddSpec.pre6 enc Try.prog Try.f6 Rows.numOddRow.domain false) (Rows.numOddSpec.post enc Try.prog Try.f6 false true false false) := by
  refine returnsInHanded_of_change (C := Try.checked) own started (by kernel_rfl) Try.func6
    (ChangeSpec.witness6 (enc := enc) (C := Try.checked) false ⟨#[], #[.int .i64 0, .int .u64 0, .int .u64 0], []⟩ 8 (by kernel_rfl) (by kernel_rfl) (by kernel_rfl) (by kernel_rfl)) ?_
  intro W base args ds gs before hval0 hW hcnd _
  have hval : ∀ (j : Nat) t v, Try.f6.params[j]? = some t → args[j]? = some v → Value.okWide Try.prog W .any base t v := hval0
  have hW' := hW
  obtain ⟨p, q, hA0, hV, rfl, hfz, hnd⟩ := hW
  have hA : DataW.TrodAll enc Try.prog W 0 (fun _ => true) true Try.f6.params.toList args.toList ds p := hA0
  rw [Try.params6] at hA hval
  obtain ⟨v0, vs0, d0, ds0, p0, q0, hargs, rfl, rfl, h0, r0⟩ := trodAll_cons hA
  obtain ⟨v1, vs1, d1, ds1, p1, q1, rfl, rfl, rfl, h1, r1⟩ := trodAll_cons r0
  obtain ⟨v2, vs2, d2, ds2, p2, q2, rfl, rfl, rfl, h2, r2⟩ := trodAll_cons r1
  obtain ⟨rfl, rfl, rfl⟩ := trodAll_nil r2
  obtain rfl : args = #[v0, v1, v2] := by cases args; simp_all
  obtain ⟨rfl, rfl⟩ := trodVars_none hV
  obtain ⟨a0, rfl, rfl, rfl, w0⟩ := open_int Try.underlying3 (hval 0 3 v0 rfl rfl) h0
  obtain ⟨a1, rfl, rfl, rfl, w1⟩ := open_int Try.underlying28 (hval 1 28 v1 rfl rfl) h1
  obtain ⟨a2, rfl, rfl, rfl, w2⟩ := open_int Try.underlying28 (hval 2 28 v2 rfl rfl) h2
  clear hA0 hval0
  simp only [List.append_nil] at hW'
  refine (walk a0 a1 a2 w0 w1 w2 W).mono fun e W' ⟨he, hg⟩ => ?_
  subst he
  exact ⟨_, rfl, post_of_same (pa := []) (pv := []) hW' (fun _ _ _ => (trodAll_cons_mk (shut_bool Try.underlying4 _) trodAll_mk0)) (fun sp _ => (trodAll_cons_mk (shut_int Try.underlying3 w0) (trodAll_cons_mk (shut_int Try.underlying28 w1) (trodAll_cons_mk (shut_int Try.underlying28 w2) trodAll_mk0)))) (fun _ _ => rfl) rfl
    (hg.frame _) hg.2.1 (ok_one (by kernel_rfl) rfl (okWide_bool_mk Try.underlying4 _))⟩

theorem over : Rows.numOddRow.holds Try.pinned (OpenSpec.ofChange Rows.numOddSpec) :=
  OpenClaim.holds_of_wide 6 Try.f6 rfl rfl rfl rfl rfl rfl rfl ⟨rfl, rfl, rfl, rfl, rfl⟩ rfl rfl rfl rfl rfl (by kernel_rfl) Try.func6 (by kernel_rfl)
    (of_decide_eq_true (by kernel_rfl)) (by unfold Func.isWrapper; first | (rw [if_pos (by decide +kernel)]; kernel_rfl) | (rw [if_neg (by decide +kernel)]; exact ⟨rfl, rfl⟩))
    (fun os started H enc _ => lifted os started H enc)

theorem proved : Rows.NumOddSaid :=
  over
end Go.Proofs.Ytjndndfgommcdaa.numOdd
