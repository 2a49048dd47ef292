/- The contracts of lex's functions row, all, IsWord and IsName. -/
import Derived.Test.YtdankjkmgcclhaaDoorUntil
import Derived.Deep.QuietTactic
import Derived.Deep.RegionWith
namespace Go.Proofs.YtdankjkmgcclhaaDoor
open Go.ChangeShapes Go.WideShapes Go.ChangeAt Go.RowKit
set_option linter.unusedVariables false

set_option maxRecDepth 100000 in
theorem row_any (s : ByteArray) (w : World) : Calls Tryd.prog 31 #[.string s] w fun e w' => e = .returned (.int .i64 (runOf isPart s.data.toList)) ∧ Below w.heap.size w w' := by
  go_enter Tryd.func31, Tryd.ntmps31
  go_wp2_with (go_at_call 38; refine (until_row s _).mono ?_; rintro e w' ⟨rfl, hb⟩)
  go_ret
  exact ⟨rfl, by assumption⟩

theorem cell_fresh (w : World) (c : Array Value) (t : TypeId) (v : Value) {j : Nat} (h : c[j]? = some v) : (w.alloc (.cells c t)).cell? ⟨w.heap.size, j, none⟩ = some v :=
  (World.cell?_alloc_new w c t j).trans h
theorem Below.over {w w1 w' : World} (h : Below w.heap.size w w1) (k : Below w1.heap.size w1 w') : Below w.heap.size w w' := h.trans (k.mono h.size)

/-- Whether each byte is such. -/
theorem run_iff (p : UInt8 → Bool) (l : List UInt8) : runOf p l = l.length ↔ l.all p = true := by
  induction l with
  | nil => simp [runOf]
  | cons c l ih =>
    simp only [runOf, List.takeWhile_cons, List.all_cons]
    cases h : p c
    · simp
    · simp only [if_true, List.length_cons, Bool.true_and, ← ih, runOf]
      omega

theorem eq_len (s : ByteArray) (n : Nat) (q : Bool) (h : n = s.data.toList.length ↔ q = true) : ((n : Int) == (s.size : Int)) = q := by
  have hlen : s.data.toList.length = s.size := by simp
  rw [hlen] at h
  cases q
  · have : ¬ n = s.size := fun e => by simpa using h.1 e
    have : ¬ ((n : Int) = (s.size : Int)) := by omega
    simp; omega
  · have : n = s.size := h.2 rfl
    subst this; simp

set_option maxRecDepth 100000 in
set_option maxHeartbeats 1000000 in
theorem all_part (s : ByteArray) (w : World) : Calls Tryd.prog 22 #[.string s, .func (.func 23) #[] #[]] w fun e w' => e = .returned (.bool (s.data.toList.all isPart)) ∧ Below w.heap.size w w' := by
  have hmf : ∀ (fn : Fn) (first cap : Array Value) (w : World), (Instr.makeFunc fn first cap).run Tryd.prog w = .ok (.func fn first cap) w := fun _ _ _ _ => rfl
  have C := until_part s w.heap.size (w.alloc (.cells #[.func (.func 23) #[] #[]] 48)) (cell_fresh _ _ _ _ rfl)
  have F : Hid ((((runOf isPart s.data.toList : Nat) : Int) == (s.size : Int)) = s.data.toList.all isPart) := hid (eq_len s _ _ (run_iff _ _))
  generalize runOf isPart s.data.toList = n at C F
  generalize s.data.toList.all isPart = q at F
  go_enter Tryd.func22, Tryd.ntmps22
  go_wp2_with (go_at_call 38; refine C.mono ?_; rintro e w' ⟨rfl, hb⟩)
  go_ret
  exact ⟨ret_bool F.out, Below.over ((Below.refl _ _).alloc (Nat.le_refl _) _) hb⟩

set_option maxRecDepth 100000 in
set_option maxHeartbeats 1000000 in
theorem all_hex (s : ByteArray) (w : World) : Calls Tryd.prog 22 #[.string s, .func (.func 45) #[] #[]] w fun e w' => e = .returned (.bool (s.data.toList.all isHex)) ∧ Below w.heap.size w w' := by
  have hmf : ∀ (fn : Fn) (first cap : Array Value) (w : World), (Instr.makeFunc fn first cap).run Tryd.prog w = .ok (.func fn first cap) w := fun _ _ _ _ => rfl
  have C := until_hex s w.heap.size (w.alloc (.cells #[.func (.func 45) #[] #[]] 48)) (cell_fresh _ _ _ _ rfl)
  have F : Hid ((((runOf isHex s.data.toList : Nat) : Int) == (s.size : Int)) = s.data.toList.all isHex) := hid (eq_len s _ _ (run_iff _ _))
  generalize runOf isHex s.data.toList = n at C F
  generalize s.data.toList.all isHex = q at F
  go_enter Tryd.func22, Tryd.ntmps22
  go_wp2_with (go_at_call 38; refine C.mono ?_; rintro e w' ⟨rfl, hb⟩)
  go_ret
  exact ⟨ret_bool F.out, Below.over ((Below.refl _ _).alloc (Nat.le_refl _) _) hb⟩

end Go.Proofs.YtdankjkmgcclhaaDoor
