/- The law padlocklaw08.CalcLong answers true at every input: an expression has 64 items at most. No conditions. -/
import Derived.Test.YtefcpidegnddiaaRows
import Derived.Test.YtefcpidegnddiaaRowz
import Derived.WalkKit
import Derived.ProofKit
import Derived.OpenShut
import Derived.ShutString
import Derived.ChangeOld
import Derived.Below
import Derived.Deep.QuietTactic
import Derived.BigQuiet
import Derived.Deep.CutBlock
import Derived.Deep.CutRange
import Derived.Deep.DeepCutAuto
namespace Go.Proofs.Ytefcpidegnddiaa.calcLong
open Go.ChangeShapes Go.WideShapes Go.ChangeAt Go.RowKit
open Go.ChangeMaps (open_string shut_string)
set_option linter.unusedVariables false

theorem own : ownKnob Try.prog.godebug = none := by kernel_rfl
theorem laidOut : laidOutB Try.prog = true := by kernel_rfl

def neg1 : Itm := ⟨4, 0, 0⟩
def longL (n : Int) (k : Nat) : List Itm := ⟨1, 0, n⟩ :: List.replicate k neg1
def altN (n : Int) : Nat → Int
  | 0 => n
  | k + 1 => IntKind.u64.wrap (-(altN n k))

theorem long_succ (n : Int) (k : Nat) : longL n (k + 1) = longL n k ++ [neg1] := by
  unfold longL
  rw [List.replicate_succ', List.cons_append]

theorem long_len (n : Int) (k : Nat) : (longL n k).length = k + 1 := by unfold longL; simp

theorem long_hgt (n : Int) (k : Nat) : hgt 0 (longL n k) 0 = some 1 := by
  induction k with
  | zero => rfl
  | succ k ih => rw [long_succ, hgt_app, ih]; rfl

theorem long_run (n : Int) (k : Nat) : runE [] [] (longL n k) [] = some [altN n k] := by
  induction k with
  | zero => rfl
  | succ k ih => rw [long_succ, runE_app, ih]; rfl

theorem long_good (n : Int) (k : Nat) : goodB 0 (longL n k) = decide (k ≤ 63) := by
  unfold goodB
  rw [long_hgt, long_len, Bool.eq_iff_iff]; simp

theorem long_ev (n : Int) (k : Nat) (h : k ≤ 63) : evN [] [] (longL n k) = altN n k ∧ evT [] [] (longL n k) = 0 := by
  unfold evN evT
  have : goodB (([] : List Int).length : Int) (longL n k) = true := by show goodB 0 _ = _; rw [long_good]; simp [h]
  rw [this, long_run]; exact ⟨rfl, rfl⟩

theorem long_none (n : Int) (k : Nat) (h : 63 < k) : evN [] [] (longL n k) = 0 ∧ evT [] [] (longL n k) = 0 := by
  have : goodB (([] : List Int).length : Int) (longL n k) = false := by show goodB 0 _ = _; rw [long_good]; simp; omega
  exact evN_bad this

theorem alt_u (n : Int) (h : U n) (k : Nat) : U (altN n k) := by
  cases k with
  | zero => exact h
  | succ k => exact u_wrap _

set_option maxRecDepth 100000 in
set_option maxHeartbeats 1000000 in
theorem walk (n : Int) (signs : Int) (w : World) (wf0 : (Lit.int .u64 n).wf = true) (wf1 : (Lit.int .i64 signs).wf = true) :
    Calls Try.prog 7 #[.int .u64 n, .int .i64 signs] w fun e w' => e = .returned (.bool true) ∧ Below w.heap.size w w' := by
  have hu := bounds_u64 wf0
  have hs := bounds_i64 wf1
  clear wf0 wf1
  by_cases h0 : signs < 0
  · go_enter Try.func7, Try.ntmps7
    go_wp2_with fail
    refine (alive_any _).mono ?_
    rintro r w3 ⟨rfl, hb3⟩
    go_wp2
    go_ret
    exact ⟨rfl, hb3⟩
  by_cases h1 : 200 < signs
  · have h0' : 0 ≤ signs := by omega
    clear h0
    go_enter Try.func7, Try.ntmps7
    go_wp2_with fail
    refine (alive_any _).mono ?_
    rintro r w3 ⟨rfl, hb3⟩
    go_wp2
    go_ret
    exact ⟨rfl, hb3⟩
  · obtain ⟨m, rfl⟩ := Int.eq_ofNat_of_zero_le (show 0 ≤ signs by omega)
    have hm : m ≤ 200 := by omega
    clear h0 h1 hs
    replace hu := hid hu
    go_enter Try.func7, Try.ntmps7
    go_wp2_with fail
    refine (alive_any _).mono ?_
    rintro r w3 ⟨rfl, hb3⟩
    have R0 := hid (IRow.new1 w.heap.size w3 ⟨1, 0, n⟩ (by have := hu.out; simp [Itm.ok]; omega) hb3.size)
    have B0 := hid (hb3.alloc hb3.size (.cells #[.int .i64 1, .int .i64 0, .int .u64 n] 36))
    clear hb3
    go_wp2_with fail
    go_loopw [5, 6, 7] (fun t5 t6 t wr => ∃ (k n' c : Nat) (p : Option Addr), t = .int .i64 k ∧ k ≤ m ∧ t5 = .slice p n' c ∧ Hid (n' = k + 1) ∧ n' ≤ 201 ∧ t6 = .int .u64 (altN n k) ∧ Hid (IRow w.heap.size wr (.slice p n' c) n' (longL n k)) ∧ Hid (Below w.heap.size w wr)) (fun _ _ t _ => m - (intOf t).toNat)
    case atStart => exact ⟨0, 1, 1, some ⟨w3.heap.size, 0, none⟩, rfl, by omega, rfl, hid rfl, by omega, rfl, R0, B0⟩
    case round =>
      obtain ⟨k, n', c, p, rfl, hk, rfl, hn', hn2, rfl, R, B⟩ := hrel
      clear R0 B0
      by_cases hkm : k < m
      · have R1 := hid (R.out.kept ((Below.refl _ _).alloc (Nat.le_refl _) (.cells #[.int .i64 4, .int .i64 0, .int .u64 0] 36)))
        have B1 := hid (B.out.alloc B.out.size (.cells #[.int .i64 4, .int .i64 0, .int .u64 0] 36))
        have N1 := hid (items_new wr [neg1] (by intro y hy; simp at hy; subst hy; simp [Itm.ok, neg1]) #[.int .i64 4, .int .i64 0, .int .u64 0] rfl)
        have ha := hid (alt_u n hu.out k)
        have e := hid (long_succ n k)
        have e2 : Hid (altN n (k + 1) = IntKind.u64.wrap (-(altN n k))) := hid rfl
        generalize altN n k = v at *
        have ha0 : 0 ≤ v := ha.out.1
        have ha1 : v ≤ 18446744073709551615 := ha.out.2
        clear R B
        go_wp2_with (first
          | (at_builtin; refine wl_appI rfl _ _ rfl w.heap.size (.slice p n' c) rfl n' (longL n k) R1.out wr.heap.size 0 1 1 rfl [neg1] rfl N1.out B1.out.size (by omega) ?_; intro p2 c2 w5 n5 hn5 R5 B5 G5))
        go_roundw
        case rel =>
          refine ⟨k + 1, n5, c2, p2, by go_num, by omega, rfl, hid (by rw [hn5.out, hn'.out]), by rw [hn5.out, hn'.out]; omega, ?_, ?_, hid (B1.out.trans B5.out)⟩
          · rw [e2.out]
          · rw [e.out]; exact R5
        case measure => simp [intOf]; omega
      · have e : k = m := by omega
        subst e
        have C := hid (eval_any p none none n' c 0 0 0 0 (longL n k) [] [] wr (by rw [long_len]; exact hn'.out) rfl rfl R.out.at (NumsAt.nil _ _ _) (NumsAt.nil _ _ _) (by omega) (by omega) (by omega))
        have G := hid (fun W (h : Below wr.heap.size wr W) => good_any 0 p n' c (longL n k) W (by rw [long_len]; exact hn'.out) (R.out.at.kept h) (by omega) (by omega) (by omega))
        simp only [long_good] at G
        by_cases h63 : 63 < k
        · have q : (63 : Int) < (k : Int) := by omega
          have d : decide (k ≤ 63) = false := decide_eq_false (by omega)
          rw [(long_none n k h63).1, (long_none n k h63).2] at C
          rw [d] at G
          clear R d
          go_wp2_with fail
          refine Calls.mono C.out ?_
          rintro r w4 ⟨rfl, hb4⟩
          have B4 := hid (B.out.trans (hb4.mono B.out.size))
          have G4 := hid (G.out w4 hb4)
          clear hb4 C G B
          go_wp2_with (go_at_call 11; refine Calls.mono G4.out ?_; rintro r w5 ⟨rfl, hb5⟩)
          go_ret
          exact ⟨rfl, B4.out.trans (hb5.mono B4.out.size)⟩
        · have q : (k : Int) ≤ 63 := by omega
          have d : decide (k ≤ 63) = true := decide_eq_true (by omega)
          rw [(long_ev n k (by omega)).1, (long_ev n k (by omega)).2] at C
          rw [d] at G
          clear R d
          generalize altN n k = v at *
          have qv : (v == v) = true := by simp
          go_wp2_with fail
          refine Calls.mono C.out ?_
          rintro r w4 ⟨rfl, hb4⟩
          have B4 := hid (B.out.trans (hb4.mono B.out.size))
          have G4 := hid (G.out w4 hb4)
          clear hb4 C G B
          go_wp2_with (go_at_call 11; refine Calls.mono G4.out ?_; rintro r w5 ⟨rfl, hb5⟩)
          go_ret
          exact ⟨rfl, B4.out.trans (hb5.mono B4.out.size)⟩

set_option maxRecDepth 100000 in
theorem lifted (os : Os) (started : os.Started) (H : Type) (enc : TypeId × Value → H) :
    ReturnsInHanded {} Try.checked os 7 .any (Rows.calcLongSpec.pre6 enc Try.prog Try.f7 Rows.calcLongRow.domain false) (Rows.calcLongSpec.post enc Try.prog Try.f7 false true false false) := by
  refine returnsInHanded_of_change (C := Try.checked) own started (by kernel_rfl) Try.func7
    (ChangeSpec.witness6 (enc := enc) (C := Try.checked) false ⟨#[], #[.int .u64 0, .int .i64 0], []⟩ 8 (by kernel_rfl) (by kernel_rfl) (by kernel_rfl) (by kernel_rfl)) ?_
  intro W base args ds gs before hval0 hW hcnd _
  have hval : ∀ (j : Nat) t v, Try.f7.params[j]? = some t → args[j]? = some v → Value.okWide Try.prog W .any base t v := hval0
  have hW' := hW
  obtain ⟨p, q, hA0, hV, rfl, hfz, hnd⟩ := hW
  have hA : DataW.TrodAll enc Try.prog W 0 (fun _ => true) true Try.f7.params.toList args.toList ds p := hA0
  rw [Try.params7] at hA hval
  obtain ⟨v0, vs0, d0, ds0, p0, q0, hargs, rfl, rfl, h0, r0⟩ := trodAll_cons hA
  obtain ⟨v1, vs1, d1, ds1, p1, q1, rfl, rfl, rfl, h1, r1⟩ := trodAll_cons r0
  obtain ⟨rfl, rfl, rfl⟩ := trodAll_nil r1
  obtain rfl : args = #[v0, v1] := by cases args; simp_all
  obtain ⟨rfl, rfl⟩ := trodVars_none hV
  obtain ⟨a0, rfl, rfl, rfl, w0⟩ := open_int Try.underlying26 (hval 0 26 v0 rfl rfl) h0
  obtain ⟨a1, rfl, rfl, rfl, w1⟩ := open_int Try.underlying3 (hval 1 3 v1 rfl rfl) h1
  clear hA0 hval0
  refine (walk a0 a1 W w0 w1).mono fun e W' ⟨he, bel⟩ => ?_
  subst he
  exact ⟨_, rfl, _, _, _, [], _, [], hW', trodAll_mk1 (shut_bool Try.underlying4 _), (trodAll_cons_mk (shut_int Try.underlying26 w0) (trodAll_cons_mk (shut_int Try.underlying3 w1) trodAll_mk0)), rfl, bel.frame _, fun h => by cases h⟩

theorem over : Rows.calcLongRow.holds Try.pinned (OpenSpec.ofChange Rows.calcLongSpec) :=
  OpenClaim.holds_of_wide 7 Try.f7 rfl rfl rfl rfl rfl rfl rfl ⟨rfl, rfl, rfl, rfl, rfl⟩ rfl rfl rfl rfl rfl (by kernel_rfl) Try.func7 (by kernel_rfl)
    (of_decide_eq_true (by kernel_rfl)) (by unfold Func.isWrapper; first | (rw [if_pos (by decide +kernel)]; kernel_rfl) | (rw [if_neg (by decide +kernel)]; exact ⟨rfl, rfl⟩))
    (fun os started H enc _ => lifted os started H enc)

theorem proved : Rows.CalcLongSaid :=
  over
end Go.Proofs.Ytefcpidegnddiaa.calcLong
