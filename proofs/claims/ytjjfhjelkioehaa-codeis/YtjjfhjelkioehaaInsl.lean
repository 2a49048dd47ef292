/- The document's Good: the instruction at a place. -/
import Derived.Test.YtjjfhjelkioehaaInsAt
namespace Go.Proofs.Ytjjfhjelkioehaa
open Go.ChangeShapes Go.WideShapes Go.ChangeAt Go.RowKit
set_option linter.unusedVariables false
set_option linter.unusedSimpArgs false

theorem insAt_i0 {c : Cd} {kt kp : Nat} {x : Bd} {y : Ins} (hx : c.threads[kt]? = some x) (hy : x.code[kp]? = some y) : insAt c (kt : Int) (kp : Int) = y := by
  have h1 := (List.getElem?_eq_some_iff.1 hx).1
  have h2 := (List.getElem?_eq_some_iff.1 hy).1
  have e1 : c.threads.getD (kt : Int).toNat Bd.z = x := by simp [List.getD, hx]
  have i1 : isIn (kt : Int) c.threads.length = true := isIn_iff.2 ⟨by omega, by omega⟩
  have i2 : isIn (kp : Int) x.code.length = true := isIn_iff.2 ⟨by omega, by omega⟩
  unfold insAt
  rw [e1, i1, i2]
  simp [List.getD, hy]
theorem insAt_n1 {c : Cd} {th pl : Int} (h : isIn th c.threads.length = false) : insAt c th pl = Ins.z := by
  unfold insAt; rw [h]; rfl
theorem insAt_n2 {c : Cd} {kt : Nat} {pl : Int} {x : Bd} (hx : c.threads[kt]? = some x) (h : isIn pl x.code.length = false) : insAt c (kt : Int) pl = Ins.z := by
  have e1 : c.threads.getD (kt : Int).toNat Bd.z = x := by simp [List.getD, hx]
  unfold insAt; rw [e1, h]; simp
theorem ste_no {c : Cd} {i : Int} {s : Ste} (h : insAt c s.th s.pl = Ins.z) : ¬ steOk c i s := fun k => by
  rw [steOk, h] at k
  rcases k.1 with e | e <;> simp [Ins.z] at e
theorem inZ_any (n m : Int) (w : World) : Calls Try.prog 20 #[.int .i64 n, .int .i64 m] w fun e w' => e = .returned (.bool (decide (0 ≤ n) && decide (n < m))) ∧ w' = w := by
  go_enter Try.func20, Try.ntmps20
  go_wp2
  all_goals
    go_ret
    refine ⟨retB ?_, rfl⟩
    first | (simp [*]; done) | (simp [*]; intros; omega)
end Go.Proofs.Ytjjfhjelkioehaa
