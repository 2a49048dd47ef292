/- InR, Tz -/
import Derived.Test.YtdpbapoahfggeaaDoorM06
import Derived.OrdersHeld
import Derived.OrdersIn
import Derived.Deep.RegionHeld
import Derived.Test.YtdpbapoahfggeaaDoorM00
/- A region that draws its order, inside a round of a range over a function. No Go of the program in it. -/
namespace Go.Proofs.YtdpbapoahfggeaaDoor
open Go.ChangeShapes Go.WideShapes Go.ChangeAt Go.RowKit
set_option linter.unusedVariables false

theorem rows_in {n l : Nat} {P : Program} {row : String} {args : Array Value} {w : World} {R : Value → World → Prop} (h : Rows P row args w R) : RowsIn (Fence.wide.inRound l) n P row args w R := fun c cs _ => by
  obtain ⟨v, w', r, s⟩ := h c cs
  exact ⟨v, w', r, stepsIn_wide.2 s⟩
theorem upon_in {n l : Nat} {P : Program} {o : Oper} {a : Act} {next : Act → World → Prop} {Q : Exit → Act → World → Prop} (r : Result Next) (h : o.upon P a next Q r) : o.uponIn (Fence.wide.inRound l) n P a next Q r := by
  cases r with
  | ok x w' =>
    cases x with
    | enter f args => exact ⟨(fun h => by cases h), callsIn_wide.2 h⟩
    | row row args => exact ⟨(fun h => by cases h), rows_in h⟩
    | value v => exact h
    | skip => exact h
    | defer d => exact h
    | _ => exact absurd h (by simp [Oper.upon])
  | halt x w' =>
    cases x with
    | panic v => exact h
    | _ => exact absurd h (by simp [Oper.upon])

section
variable {P : Program} {ops : Array Oper} {Q : Exit → Act → World → Prop} {md : Region.Mode} {n l : Nat}
theorem op_in (hnd : ∀ (i : Nat) (o : Oper), ops[i]? = some o → ∀ c, o.op ≠ .defer c) (hQ : ¬ LetsOut Q) {i : Nat} {K K' : Act → World → Prop} {a : Act} {w : World} (hK : ∀ a w, K a w → K' a w) (h : wpOp P ops Q i K a w) : wpOpIn (Fence.wide.inRound l) n P ops Q i K' a w := by
  unfold wpOp at h
  unfold wpOpIn
  cases ho : ops[i]? with
  | none =>
    simp only [ho] at h
    exact hK _ _ h
  | some o =>
    simp only [ho] at h
    simp only
    by_cases hw : Region.wanted o (yielded ops a.tmps) = true
    · rw [if_pos hw] at h
      rw [if_pos hw]
      rcases h with h | ⟨_, h⟩
      · refine Oper.wpIn_mono hK ⟨fun f _ => trivial, ?_⟩
        rw [Oper.semAt_plain _ _ _ (hnd i o ho)]
        exact upon_in _ h
      · exact absurd h hQ
    · rw [if_neg hw] at h
      rw [if_neg hw]
      exact ⟨fun f _ => trivial, hK _ _ h⟩
theorem any_in (hnd : ∀ (i : Nat) (o : Oper), ops[i]? = some o → ∀ c, o.op ≠ .defer c) (hQ : ¬ LetsOut Q) : ∀ (fuel : Nat) (listed : Array Bool) (a : Act) (w : World), wpAny P md ops Q fuel listed a w → wpAnyIn (Fence.wide.inRound l) n P md ops Q fuel listed a w
  | 0, _, _, _, h => h
  | fuel + 1, _, _, _, h => ⟨h.1, fun i hi => op_in hnd hQ (fun a w => any_in hnd hQ fuel _ a w) (h.2 i hi)⟩
/-- The beginning: as wp_region_held_drew, inside a round. -/
theorem wpIn_round_held {S : World → Prop} {id : Nat} {a : Act} {w : World} (hm : P.follows .mixedOrders = true) (hnd : ∀ (i : Nat) (o : Oper), ops[i]? = some o → ∀ c, o.op ≠ .defer c) (hQ : ¬ LetsOut Q) (hS : S w.drew)
    (h : S w.drew → wpAnyH P .any ops Q S ops.size (Array.replicate ops.size false) a w.drew) : (Code.region id ops true).wpIn (Fence.wide.inRound l) n P Q a w :=
  wpIn_region_any hm (any_in hnd hQ _ _ _ _ (wpAny_of_held _ _ _ _ (h hS)))
end
end Go.Proofs.YtdpbapoahfggeaaDoor
/- The library's table; TrailingZeros64. -/
namespace Go.Proofs.YtdpbapoahfggeaaDoor
open Go.ChangeShapes Go.WideShapes Go.ChangeAt Go.RowKit
set_option linter.unusedVariables false
set_option linter.unusedSimpArgs false

/-- The library's table lies where it lies. -/
def Tab (w : World) : Prop := ∃ t fr, w.heap[0]? = some (.cells (deB.map fun (k : Nat) => Value.int .u8 (k : Int)).toArray t fr)
theorem Tab.lt {w : World} (h : Tab w) : 0 < w.heap.size := by
  obtain ⟨t, fr, h⟩ := h
  exact (Array.getElem?_eq_some_iff.1 h).1
theorem Tab.touch {T : Nat → Prop} {w w' : World} (h : Tab w) (k : Touch T w w') (h0 : ¬ T 0) : Tab w' := by
  have hl := h.lt
  obtain ⟨t, fr, h⟩ := h
  exact ⟨t, fr, (k.block 0 hl h0).trans h⟩
theorem Tab.below {B : Nat} {w w' : World} (h : Tab w) (k : Below B w w') (h0 : 0 < B) : Tab w' := by
  obtain ⟨t, fr, h⟩ := h
  exact ⟨t, fr, (k.block 0 h0).trans h⟩
theorem Tab.kept {w w' : World} (h : Tab w) (k : Below w.heap.size w w') : Tab w' := h.below k h.lt
theorem Tab.cell {w : World} (h : Tab w) (i : Nat) (hi : i < 64) : w.cell? ⟨0, i, none⟩ = some (.int .u8 ((deB.getD i 0 : Nat) : Int)) := by
  obtain ⟨t, fr, h⟩ := h
  have hl : i < deB.length := hi
  simp only [World.cell?, h]
  simp [List.getD, hl]

theorem neg_u64 {x : Nat} (h0 : x ≠ 0) (hx : x < 18446744073709551616) : IntKind.u64.wrap (-(x : Int)) = ((18446744073709551616 - x : Nat) : Int) := by
  rw [IntKind.wrap_u64]; omega

theorem p64 : (2 : Nat) ^ 64 = 18446744073709551616 := by decide
theorem tz_facts {x k m : Nat} (e : x = 2 ^ (k + 1) * m + 2 ^ k) (hx : x < 18446744073709551616) :
    ∃ y p q i : Nat, k < 64 ∧ x ≠ 0 ∧ IntKind.u64.wrap (-(x : Int)) = (y : Int) ∧ bits .and .u64 (x : Int) (y : Int) = (p : Int) ∧ IntKind.u64.wrap ((p : Int) * 285870213051353865) = (q : Int) ∧ q < 18446744073709551616 ∧ (q : Int) / 288230376151711744 = (i : Int) ∧ i < 64 ∧ deB.getD i 0 = k := by
  have hx' : x < 2 ^ 64 := by rw [p64]; exact hx
  have hk := low_lt e hx'
  have h0 : 0 < 2 ^ k := Nat.two_pow_pos k
  have hx0 : x ≠ 0 := by omega
  obtain ⟨d1, d2⟩ := deB_at k hk
  refine ⟨18446744073709551616 - x, 2 ^ k, 2 ^ k * 285870213051353865 % 18446744073709551616, 2 ^ k * 285870213051353865 % 18446744073709551616 / 288230376151711744, hk, hx0, neg_u64 hx0 hx, ?_, ?_, Nat.mod_lt _ (by decide), ?_, d1, d2⟩
  · rw [u64_and_nat _ _ hx (by omega)]
    have := low_and e hx'
    rw [p64] at this
    rw [this]
  · rw [IntKind.wrap_u64]; omega
  · omega

set_option maxRecDepth 100000 in
set_option maxHeartbeats 400000 in
theorem tz_any {x k m : Nat} (e : x = 2 ^ (k + 1) * m + 2 ^ k) (hx : x < 18446744073709551616) (w : World) (hT : Tab w) : Calls Tryd.prog 28 #[.int .u64 (x : Int)] w fun r w' => r = .returned (.int .i64 (k : Int)) ∧ w' = w := by
  obtain ⟨y, p, q, i, hk, hx0, e1, e2, e3, hql, e4, d1, d2⟩ := tz_facts e hx
  have hx0' : ¬ ((x : Int) = 0) := by omega
  have c := hT.cell _ d1
  rw [d2] at c
  clear d2
  replace e := hid e
  go_enter Tryd.func28, Tryd.ntmps28
  go_wp2
  go_ret
  exact ⟨rfl, rfl⟩
end Go.Proofs.YtdpbapoahfggeaaDoor
