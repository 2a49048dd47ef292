/- The contracts of Count and of its own function. -/
import Derived.Test.YtfdfeiempeciiaaWalk
namespace Go.Proofs.Ytfdfeiempeciiaa
open Go.ChangeShapes Go.WideShapes Go.ChangeAt Go.RowKit Go.Shelf
set_option linter.unusedVariables false
attribute [local go_sem] Oper.semAt_some

def cntF (n : Int) (xs : List (Int × St)) : Int := xs.foldl (fun n _ => wrap64 (n + 1)) n
def maxF (m : Int) (xs : List (Int × St)) : Int := xs.foldl (fun m x => max m x.1) m

theorem Boxed.touch {T : Nat → Prop} {w w' : World} {b : Nat} {t : TypeId} {v : Value} (h : Boxed w b t v) (k : Touch T w w') (hb : ¬ T b) : Boxed w' b t v := (k.block b h.lt hb).trans h
theorem Boxed.below {B : Nat} {w w' : World} {b : Nat} {t : TypeId} {v : Value} (h : Boxed w b t v) (k : Below B w w') (hb : b < B) : Boxed w' b t v := (k.block b hb).trans h

theorem Touch.stays {T : Nat → Prop} {w W W' : World} {B : Nat} (h : Touch T w W) (k : Below B W W') (hB : w.heap.size ≤ B) : Touch T w W' :=
  ⟨k.os.trans h.os, k.tape.trans h.tape, k.output.trans h.output, Nat.le_trans h.size k.size, fun b hb hT => (k.block b (by omega)).trans (h.block b hb hT)⟩
theorem cntF_snoc (n : Int) (xs : List (Int × St)) (k : Nat) (x : Int × St) (hx : xs[k]? = some x) : cntF n (xs.take (k + 1)) = wrap64 (cntF n (xs.take k) + 1) := by
  rw [List.take_add_one, hx]
  simp [cntF]
theorem maxF_snoc (n : Int) (xs : List (Int × St)) (k : Nat) (x : Int × St) (hx : xs[k]? = some x) : maxF n (xs.take (k + 1)) = max (maxF n (xs.take k)) x.1 := by
  rw [List.take_add_one, hx]
  simp [maxF]

set_option maxRecDepth 100000 in
set_option maxHeartbeats 2000000 in
theorem count1_any (l : List St) (v : Value) (w : World) (G : Nat → Prop) (hl : stsOk w G v l) (b1 b2 : Nat) (hne : b1 ≠ b2) (hG : ∀ b, G b → b ≠ b1 ∧ b ≠ b2) (n m : Int) (h1 : Boxed w b1 3 (.int .i64 n)) (h2 : Boxed w b2 3 (.int .i64 m)) :
    Calls Try.prog 42 #[v, .pointer (some ⟨b1, 0, none⟩), .pointer (some ⟨b2, 0, none⟩)] w fun e w' => (∃ r, e = .returned r) ∧ Touch (fun b => b = b1 ∨ b = b2) w w' ∧ Boxed w' b1 3 (.int .i64 (cntF n (flatL 0 l))) ∧ Boxed w' b2 3 (.int .i64 (maxF m (flatL 0 l))) := by
  refine (callsIn_wide (n := 3)).1 ?_
  have l1 := h1.lt
  have l2 := h2.lt
  have C := fun W => each_any v (by obtain ⟨p, c, rfl⟩ := hl.1.form; exact ⟨_, _, _, rfl⟩) W
  have hS := fun n => each1_seq Fence.wide rfl trivial trivial rfl G (fun b => b = b1 ∨ b = b2) (fun b hb h => h.elim (hG b hb).1 (hG b hb).2) l v w.heap.size (w.alloc (.cells #[v] 35)) (Boxed.new w 35 v).cell (hl.kept ((Below.refl _ _).alloc (Nat.le_refl _) _)) n
  replace hS := hid hS
  have k1 := hid (h1.alloc (.cells #[v] 35))
  have k2 := hid (h2.alloc (.cells #[v] 35))
  obtain ⟨pv, cv, rfl⟩ := hl.1.form
  clear h1 h2 hl
  refine callsIn_of_wp_marks Try.func42 rfl trivial ?_ rfl
  simp only [Try.ntmps42, List.size_toArray, List.length_cons, List.length_nil, Nat.reduceAdd, Nat.reduceSub, Array.replicate_succ, Array.replicate_zero, List.push_toArray, List.append_toArray, List.nil_append, List.cons_append]
  gi_wp2_with (refine ⟨trivial, ?_⟩; gi_at_call 41; refine (callsIn_wide.2 (C _)).mono ?_; rintro e w' ⟨rfl, rfl⟩)
  have s0 : (w.alloc (.cells #[.slice pv l.length cv] 35)).heap.size = w.heap.size + 1 := World.size_alloc ..
  refine wpIn_range rfl rfl (gf := 50) (lb := #[.pointer (some ⟨w.heap.size, 0, none⟩)]) rfl trivial (enters_of Try.func50 (by kernel_rfl) rfl) hS.out (fun b hb => by rw [s0]; rcases hb with rfl | rfl <;> omega) (fun k args W h => by obtain ⟨x, _, rfl⟩ := h; rfl)
    (fun k W => Boxed W b1 3 (.int .i64 (cntF n ((flatL 0 l).take k))) ∧ Boxed W b2 3 (.int .i64 (maxF m ((flatL 0 l).take k))) ∧ Touch (fun b => b = b1 ∨ b = b2) w W) (fun _ _ => False) ?_ (fun _ _ _ h _ => h) ⟨k1.out, k2.out, Touch.of_below ((Below.refl _ _).alloc (Nat.le_refl _) _)⟩
    (fun k a' W => ∃ x, (flatL 0 l)[k]? = some x ∧ a' = { tmps := #[.slice pv l.length cv, .pointer (some ⟨b1, 0, none⟩), .pointer (some ⟨b2, 0, none⟩), undef, .int .i64 x.1, .slice pv l.length cv, .func (.func 50) #[] #[.pointer (some ⟨w.heap.size, 0, none⟩)], .int .i64 x.1, x.2.val, undef, undef, undef, undef, undef], defers := [] }) (fun _ _ _ _ h _ _ => h) ?assign ?body ?done ?stop
  · rintro k W W' ⟨h1, h2, h3⟩ hb
    exact ⟨Boxed.below h1 hb (by omega), Boxed.below h2 hb (by omega), h3.stays hb (by omega)⟩
  case assign =>
    rintro lp k args W K ⟨x, hx, rfl⟩ _ hK
    gi_wp2
    exact hK _ _ (Below.refl _ _) ⟨x, hx, rfl⟩
  case body =>
    rintro lp k a' W ⟨h1, h2, h3⟩ hk ⟨x, hx, rfl⟩ _
    have c1 := h1.cell
    have c2 := h2.cell
    have d1 := h1.frozen
    have d2 := h2.frozen
    have e1 := hid (cntF_snoc n _ k x hx)
    have e2 := hid (maxF_snoc m _ k x hx)
    have fin := hid (fun (r : Int) (hr : r = max (maxF m ((flatL 0 l).take k)) x.1) => (by
      have t1 : Touch (fun b => b = b1 ∨ b = b2) W ((W.setCell ⟨b1, 0, none⟩ (.int .i64 (wrap64 (cntF n ((flatL 0 l).take k) + 1)))).setCell ⟨b2, 0, none⟩ (.int .i64 r)) := (Touch.setCell _ _ _ (.inl rfl)).trans (Touch.setCell _ _ _ (.inr rfl))
      refine ⟨t1, ?_, ?_, h3.trans t1⟩
      · rw [e1.out]
        exact (h1.set _).other hne _
      · rw [e2.out, ← hr]
        exact ((h2.other (Ne.symm hne) _).set _) : endPost (fun b => b = b1 ∨ b = b2) (fun k W => Boxed W b1 3 (.int .i64 (cntF n ((flatL 0 l).take k))) ∧ Boxed W b2 3 (.int .i64 (maxF m ((flatL 0 l).take k))) ∧ Touch (fun b => b = b1 ∨ b = b2) w W) (fun _ _ => False) k W .normal { tmps := #[], defers := [] } ((W.setCell ⟨b1, 0, none⟩ (.int .i64 (wrap64 (cntF n ((flatL 0 l).take k) + 1)))).setCell ⟨b2, 0, none⟩ (.int .i64 r))))
    clear h1 h2 h3 hx e1 e2
    generalize hcn : cntF n (List.take k (flatL 0 l)) = cn at c1 fin
    generalize hcm : maxF m (List.take k (flatL 0 l)) = cm at c2 fin
    clear hcn hcm
    gi_wp2
    all_goals exact fin.out _ (by omega)
  case done =>
    rintro D W ⟨h1, h2, h3⟩ hD hK
    rw [List.take_length] at h1 h2
    gi_wp2
    have hb := below_putObj W D (.deferred none) hD
    refine ⟨by simp, .inl ⟨_, _, rfl, run_takeDeferred hK, ?_⟩⟩
    exact ⟨_, results_none rfl _ _ _, ⟨_, rfl⟩, h3.stays hb (by omega), Boxed.below h1 hb (by omega), Boxed.below h2 hb (by omega)⟩
  case stop =>
    rintro D c W h
    exact h.elim

theorem Fn.one' {w : World} {F : Nat → Prop} {e : Fn} (h : e.ok w F) : ∀ v ∈ e.cells, v.oneCell' = true := by
  intro v hv
  simp only [Fn.cells, List.mem_cons, List.not_mem_nil, or_false] at hv
  rcases hv with rfl | rfl | rfl | rfl | rfl
  all_goals first | rfl | exact h.1.1.one | exact h.2.1.one
theorem Th.one' {w : World} {F : Nat → Prop} {e : Th} (h : e.ok w F) : ∀ v ∈ e.cells, v.oneCell' = true := by
  intro v hv
  simp only [Th.cells, List.mem_cons, List.not_mem_nil, or_false] at hv
  rcases hv with rfl | rfl | rfl
  all_goals first | rfl | exact h.1.one

def funsL (l : List Fn) : List (Int × St) := l.flatMap (fun f => flatL 0 f.body)
def thsL (l : List Th) : List (Int × St) := l.flatMap (fun f => flatL 0 f.body)
theorem funsL_snoc (l : List Fn) (k : Nat) (f : Fn) (h : l[k]? = some f) : funsL (l.take (k + 1)) = funsL (l.take k) ++ flatL 0 f.body := by
  rw [List.take_add_one, h]
  simp [funsL]
theorem thsL_snoc (l : List Th) (k : Nat) (f : Th) (h : l[k]? = some f) : thsL (l.take (k + 1)) = thsL (l.take k) ++ flatL 0 f.body := by
  rw [List.take_add_one, h]
  simp [thsL]
theorem cntF_app (n : Int) (a b : List (Int × St)) : cntF n (a ++ b) = cntF (cntF n a) b := by simp [cntF]
theorem maxF_app (n : Int) (a b : List (Int × St)) : maxF n (a ++ b) = maxF (maxF n a) b := by simp [maxF]

end Go.Proofs.Ytfdfeiempeciiaa
