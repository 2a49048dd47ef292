/- Dc, Ea -/
import Derived.Test.YtdpbapoahfggeaaDoorM07
/- The document's Has. -/
namespace Go.Proofs.YtdpbapoahfggeaaDoor
open Go.ChangeShapes Go.WideShapes Go.ChangeAt Go.RowKit
set_option linter.unusedVariables false
set_option linter.unusedSimpArgs false

theorem shr_bit (a k : Nat) : (((a : Int) / 2 ^ k).tmod 2 == 1) = a.testBit k := by
  have e : ((a : Int) / 2 ^ k) = ((a / 2 ^ k : Nat) : Int) := by
    rw [Int.natCast_ediv, Int.natCast_pow]; rfl
  rw [e, Nat.testBit_eq_decide_div_mod_eq]
  generalize a / 2 ^ k = x
  rw [show ((x : Int).tmod 2) = ((x % 2 : Nat) : Int) by simp [Int.tmod_eq_emod_of_nonneg]]
  rw [Bool.eq_iff_iff]
  simp only [beq_iff_eq, decide_eq_true_eq]
  omega
def hasB (a : Nat) (k : Int) : Bool := decide (0 ≤ k ∧ k < 64) && a.testBit k.toNat
theorem hasB_nat (a k : Nat) (h : k < 64) : hasB a (k : Int) = a.testBit k := by
  unfold hasB
  rw [decide_eq_true (by omega), Bool.true_and, Int.toNat_natCast]

set_option maxHeartbeats 1000000 in
theorem hasS_any (a : Nat) (ha : a < 2 ^ 64) (k : Int) (w : World) : Calls Tryd.prog 11 #[.int .u64 (a : Int), .int .i64 k] w fun e w' => e = .returned (.bool (hasB a k)) ∧ w' = w := by
  go_enter Tryd.func11, Tryd.ntmps11
  go_wp2
  all_goals
    go_ret
    refine ⟨retB ?_, rfl⟩
    unfold hasB
  · rw [shr_bit, decide_eq_true (by omega), Bool.true_and]
  · rw [decide_eq_false (by omega), Bool.false_and]
  · rw [decide_eq_false (by omega), Bool.false_and]

end Go.Proofs.YtdpbapoahfggeaaDoor
/- Each: it hands over the bits of a set, rising. -/
namespace Go.Proofs.YtdpbapoahfggeaaDoor
open Go.ChangeShapes Go.WideShapes Go.ChangeAt Go.RowKit
set_option linter.unusedVariables false
set_option linter.unusedSimpArgs false
attribute [local go_sem] Oper.semAt_some

/-- What is handed over as number k. -/
def FitB (L : List Nat) (k : Nat) (args : Array Value) (_ : World) : Prop := ∃ x : Nat, L[k]? = some x ∧ args = #[.int .i64 (x : Int)]

theorem each_any (s : Nat) (w : World) : Calls Tryd.prog 18 #[.int .u64 (s : Int)] w fun e w' => e = .returned (.func (.func 27) #[] #[.pointer (some ⟨w.heap.size, 0, none⟩)]) ∧ w' = w.alloc (.cells #[.int .u64 (s : Int)] 23) := by
  go_enter Tryd.func18, Tryd.ntmps18
  go_wp2
  go_ret
  exact ⟨rfl, rfl⟩

theorem left_facts {x : Nat} (h : x ≠ 0) (hx : x < 18446744073709551616) : IntKind.u64.wrap ((x : Int) - 1) = ((x - 1 : Nat) : Int) ∧ bits .and .u64 (x : Int) ((x - 1 : Nat) : Int) = ((x &&& (x - 1) : Nat) : Int) ∧ x &&& (x - 1) < x := by
  refine ⟨by rw [IntKind.wrap_u64]; omega, u64_and_nat _ _ hx (by omega), ?_⟩
  have : x &&& (x - 1) ≤ x - 1 := Nat.and_le_right
  omega

set_option maxRecDepth 100000 in
set_option maxHeartbeats 1000000 in
theorem each1_seq (T : Nat → Prop) (hT0 : ¬ T 0) (s : Nat) (hs : s < 18446744073709551616) (Bk : Nat) (w : World) (hB : w.cell? ⟨Bk, 0, none⟩ = some (.int .u64 (s : Int))) (ht : Tab w) (n : Nat) :
    SeqW Fence.wide n 27 #[.pointer (some ⟨Bk, 0, none⟩)] (bitsL s).length T (FitB (bitsL s)) w := by
  intro lp J Jx W hW hl1 hl2 hY hJ0
  have hc : W.cell? ⟨Bk, 0, none⟩ = some (.int .u64 (s : Int)) := (hW.cell (p := ⟨Bk, 0, none⟩) (World.block_lt_of_cell? w _ hB)).trans hB
  have tW : Hid (∀ X, Touch (fun b => T b ∨ b = lp) W X → Tab X) := hid (fun X h => (ht.kept hW).touch h (fun q => by rcases q with q | q; exact hT0 q; have := ht.lt; omega))
  replace hY := hid hY
  clear hB hW
  refine callsIn_of_wp Tryd.func27 rfl trivial ?_ rfl
  simp only [Tryd.ntmps27, List.size_toArray, List.length_cons, List.length_nil, Nat.reduceAdd, Nat.reduceSub, Array.replicate_succ, Array.replicate_zero, List.push_toArray, List.append_toArray, List.nil_append, List.cons_append]
  gi_wp2
  gi_loopw [3] (fun t wr => ∃ x j : Nat, t = .int .u64 (x : Int) ∧ x < 18446744073709551616 ∧ Hid (bitsL x = (bitsL s).drop j) ∧ Hid (Touch (fun b => T b ∨ b = lp) W wr ∧ j ≤ (bitsL s).length ∧ J j wr)) (fun t _ => (intOf t).toNat)
  case atStart => exact ⟨s, 0, rfl, hs, hid rfl, hid ⟨Touch.refl _ _, Nat.zero_le _, hJ0⟩⟩
  case round =>
    obtain ⟨x, j, rfl, hx, hb, hJ⟩ := hrel
    by_cases h0 : x = 0
    · subst h0
      have hj : j = (bitsL s).length := by
        have h1 := hb.out
        rw [bits_zero] at h1
        have h2 := congrArg List.length h1
        have h3 := hJ.out.2.1
        simp at h2
        omega
      clear hY tW hb
      gi_wp2
      go_end0
      exact ⟨⟨_, rfl⟩, .inl (hj ▸ hJ.out.2.2)⟩
    · obtain ⟨k, m, e⟩ := low_of x h0
      have hx' : x < 2 ^ 64 := by rw [p64]; exact hx
      have hcs := bits_cons e hx'
      rw [hb.out] at hcs
      have hjl : j < (bitsL s).length := by
        have h2 := congrArg List.length hcs
        simp at h2
        omega
      rw [List.drop_eq_getElem_cons hjl] at hcs
      obtain ⟨q1, q2⟩ := List.cons.inj hcs
      have hk : (bitsL s)[j]? = some k := by rw [List.getElem?_eq_getElem hjl, q1]
      replace q2 := hid q2
      obtain ⟨e1, e2, e3⟩ := left_facts h0 hx
      have D := hid (tz_any e hx wr (tW.out _ hJ.out.1))
      obtain ⟨fn, tmps, assign, body, hy, hR⟩ := YieldAt.mono (hY.out (n - 1) j #[.int .i64 (k : Int)] wr hJ.out.2.2 hjl ⟨k, hk, rfl⟩) (R' := fun e W1 =>
        (e = .returned (.bool true) ∧ Hid (Touch (fun b => T b ∨ b = lp) W W1 ∧ j + 1 ≤ (bitsL s).length ∧ J (j + 1) W1)) ∨ (e = .returned (.bool false) ∧ Hid (Jx W1))) (fun e W1 h => by
          rcases h with ⟨he, h1, t1⟩ | ⟨he, h1, t1⟩
          · exact .inl ⟨he, hid ⟨hJ.out.1.trans t1, hjl, h1⟩⟩
          · exact .inr ⟨he, hid h1⟩)
      have hx0 : ¬ ((x : Int) = 0) := by omega
      generalize hz : x &&& (x - 1) = z at *
      replace hz := hid hz
      generalize hz1 : x - 1 = z1 at *
      replace hz1 := hid hz1
      clear e hcs q1 hk hb tW hY hJ hJ0 hx' h0
      gi_wp2_with (first
        | (refine ⟨trivial, (fun h => by cases h), ?_⟩; gi_at_call 28; refine (callsIn_wide.2 D.out).mono ?_; rintro r w' ⟨rfl, rfl⟩)
        | ((try refine ⟨(fun h => by cases h), ?_⟩); refine hR.mono ?_; clear hR; rintro r W1 (⟨rfl, h1⟩ | ⟨rfl, h1⟩)))
      · go_roundw
        case rel => exact ⟨z, j + 1, rfl, by omega, hid q2.out.symm, h1⟩
        case measure => simp [intOf]; omega
      · refine bodyPost_ret (results_none rfl _ _ _) rfl ?_
        exact ⟨⟨_, rfl⟩, .inr h1.out⟩
end Go.Proofs.YtdpbapoahfggeaaDoor
