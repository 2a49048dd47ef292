/- Contracts of calc's takes, canJoin and canBe, over the landed code. -/
import Derived.Test.YtdpbapoahfggeaaDoorDat
import Derived.Below
import Derived.WalkSpells
namespace Go.Proofs.YtdpbapoahfggeaaDoor
open Go.ChangeShapes Go.WideShapes Go.ChangeAt Go.RowKit
set_option linter.unusedVariables false
set_option linter.unusedSimpArgs false

/-- An item as a value. -/
def Itm.val (x : Itm) : Value := .agg #[.int .i64 x.op, .int .i64 x.bin, .int .u64 x.n]

set_option maxHeartbeats 400000 in
theorem takes_any (op : Int) (w : World) : Calls Tryd.prog 88 #[.int .i64 op] w fun e w' => e = .returned (.int .i64 (tk op)) ∧ w' = w := by
  go_enter Tryd.func88, Tryd.ntmps88
  go_wp2
  all_goals
    go_ret
    exact ⟨by simp [tk, *], rfl⟩

set_option maxHeartbeats 400000 in
theorem canJoin_any (op bin : Int) (w : World) : Calls Tryd.prog 91 #[.int .i64 op, .int .i64 bin] w fun e w' => e = .returned (.bool (canJ op bin)) ∧ w' = w := by
  go_enter Tryd.func91, Tryd.ntmps91
  go_wp2
  all_goals
    go_ret
    exact ⟨congrArg (fun b => Ending.returned (Value.bool b)) (by first | (simp [canJ, *]; done) | (simp [canJ, *]; intros; omega)), rfl⟩

set_option maxHeartbeats 1000000 in
theorem canBe_any (s : Int) (x : Itm) (w : World) (hx : x.ok) (h0 : -9223372036854775808 ≤ s) (h1 : s ≤ 9223372036854775807) :
    Calls Tryd.prog 89 #[.int .i64 s, .agg #[.int .i64 x.op, .int .i64 x.bin, .int .u64 x.n]] w fun e w' => e = .returned (.bool (can s x)) ∧ Below w.heap.size w w' := by
  obtain ⟨op, bin, n⟩ := x
  go_enter Tryd.func89, Tryd.ntmps89
  go_wp2_with (go_at_call 91; refine (canJoin_any _ _ _).mono ?_; rintro e w' ⟨rfl, rfl⟩)
  all_goals
    go_ret
    refine ⟨congrArg (fun b => Ending.returned (Value.bool b)) ?_, (Below.refl _ _).alloc (Nat.le_refl _) _⟩
    first | (simp [can, tk, *]; done) | (simp [can, tk, *]; intros; omega)

end Go.Proofs.YtdpbapoahfggeaaDoor
