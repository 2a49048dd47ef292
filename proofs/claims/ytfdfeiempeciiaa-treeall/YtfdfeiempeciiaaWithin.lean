/- The contract of within: it answers a number. -/
import Derived.Test.YtfdfeiempeciiaaCount
namespace Go.Proofs.Ytfdfeiempeciiaa
open Go.ChangeShapes Go.WideShapes Go.ChangeAt Go.RowKit Go.Shelf
set_option linter.unusedVariables false
attribute [local go_sem] Oper.semAt_some

set_option maxRecDepth 100000 in
set_option maxHeartbeats 2000000 in
theorem within_any (l : List St) (v : Value) (w : World) (G : Nat → Prop) (hl : stsOk w G v l) :
    Calls Try.prog 47 #[v] w fun e w' => (∃ r, e = .returned (.int .i64 r)) ∧ Below w.heap.size w w' := by
  refine (callsIn_wide (n := 3)).1 ?_
  have C := fun W => each_any v (by obtain ⟨p, c, rfl⟩ := hl.1.form; exact ⟨_, _, _, rfl⟩) W
  have b0 : Below w.heap.size w ((w.alloc (.cells #[.int .i64 0] 3)).alloc (.cells #[v] 35)) := below_two _ _ _
  have s1 : (w.alloc (.cells #[.int .i64 0] 3)).heap.size = w.heap.size + 1 := World.size_alloc ..
  have hS := fun n => each1_seq Fence.wide rfl trivial trivial rfl (fun b => G b ∧ b < w.heap.size) (fun b => b = w.heap.size) (fun b hb h => by omega) l v (w.heap.size + 1) ((w.alloc (.cells #[.int .i64 0] 3)).alloc (.cells #[v] 35)) (by have := (Boxed.new (w.alloc (.cells #[.int .i64 0] 3)) 35 v).cell; rw [s1] at this; exact this) ((hl.mono (fun g h1 h2 => ⟨h1, h2⟩)).kept b0) n
  replace hS := hid hS
  have k1 := hid ((Boxed.new w 3 (.int .i64 0)).alloc (.cells #[v] 35))
  obtain ⟨pv, cv, rfl⟩ := hl.1.form
  clear hl
  refine callsIn_of_wp_marks Try.func47 rfl trivial ?_ rfl
  simp only [Try.ntmps47, List.size_toArray, List.length_cons, List.length_nil, Nat.reduceAdd, Nat.reduceSub, Array.replicate_succ, Array.replicate_zero, List.push_toArray, List.append_toArray, List.nil_append, List.cons_append]
  gi_wp2_with (refine ⟨trivial, ?_⟩; gi_at_call 41; refine (callsIn_wide.2 (C _)).mono ?_; rintro e w' ⟨rfl, rfl⟩)
  have s0 : ((w.alloc (.cells #[.int .i64 0] 3)).alloc (.cells #[.slice pv l.length cv] 35)).heap.size = w.heap.size + 1 + 1 := by simp only [World.size_alloc]
  refine wpIn_range rfl rfl (gf := 50) (lb := #[.pointer (some ⟨w.heap.size + 1, 0, none⟩)]) rfl trivial (enters_of Try.func50 (by kernel_rfl) rfl) hS.out (fun b hb => by rw [s0]; omega) (fun k args W h => by obtain ⟨x, _, rfl⟩ := h; rfl)
    (fun k W => (∃ r, Boxed W w.heap.size 3 (.int .i64 r)) ∧ Below w.heap.size w W) (fun _ _ => False) ?_ (fun _ _ _ h _ => h) ⟨⟨0, k1.out⟩, b0⟩
    (fun k a' W => ∃ x, (flatL 0 l)[k]? = some x ∧ a' = { tmps := #[.slice pv l.length cv, undef, .int .i64 0, .pointer (some ⟨w.heap.size, 0, none⟩), .int .i64 x.1, .slice pv l.length cv, .func (.func 50) #[] #[.pointer (some ⟨w.heap.size + 1, 0, none⟩)], .int .i64 x.1, x.2.val, undef, undef, undef, undef, undef], defers := [] }) (fun _ _ _ _ h _ _ => h) ?assign ?body ?done ?stop
  · rintro k W W' ⟨⟨r, h1⟩, h3⟩ hb
    exact ⟨⟨r, Boxed.below h1 hb (by omega)⟩, h3.trans (hb.mono (by omega))⟩
  case assign =>
    rintro lp k args W K ⟨x, hx, rfl⟩ _ hK
    gi_wp2
    exact hK _ _ (Below.refl _ _) ⟨x, hx, rfl⟩
  case body =>
    rintro lp k a' W ⟨⟨r, h1⟩, h3⟩ hk ⟨x, hx, rfl⟩ _
    have c1 := h1.cell
    have d1 := h1.frozen
    have fin := hid (fun (q : Int) => (by
      have t1 : Touch (fun b => b = w.heap.size) W (W.setCell ⟨w.heap.size, 0, none⟩ (.int .i64 q)) := Touch.setCell _ _ _ rfl
      exact ⟨t1, ⟨q, h1.set _⟩, h3.trans (t1.below (fun i hi => ⟨by have := h3.size; omega, by omega⟩))⟩ : endPost (fun b => b = w.heap.size) (fun k W => (∃ r, Boxed W w.heap.size 3 (.int .i64 r)) ∧ Below w.heap.size w W) (fun _ _ => False) k W .normal { tmps := #[], defers := [] } (W.setCell ⟨w.heap.size, 0, none⟩ (.int .i64 q))))
    clear h1 h3 hx
    gi_wp2
    all_goals exact fin.out _
  case done =>
    rintro D W ⟨⟨r, h1⟩, h3⟩ hD hK
    have c1 := h1.cell
    gi_wp2
    have hb := below_putObj W D (.deferred none) hD
    refine ⟨by simp, .inl ⟨_, _, rfl, run_takeDeferred hK, ?_⟩⟩
    exact ⟨_, results_tmp rfl _ _ _, ⟨r, rfl⟩, h3.trans (hb.mono (by omega))⟩
  case stop =>
    rintro D c W h
    exact h.elim
end Go.Proofs.Ytfdfeiempeciiaa
