/- The contract of Count. -/
import Derived.Test.YtfdfeiempeciiaaCount
import Derived.Deep.QuietTactic
import Derived.BigQuiet
namespace Go.Proofs.Ytfdfeiempeciiaa
open Go.ChangeShapes Go.WideShapes Go.ChangeAt Go.RowKit Go.Shelf
set_option linter.unusedVariables false

/-- What holds while Count goes on. -/
structure CAt (w : World) (o : Obj) (wr : World) (xs : List (Int × St)) : Prop where
  n : Boxed wr (w.heap.size + 1) 3 (.int .i64 (cntF 0 xs))
  m : Boxed wr (w.heap.size + 2) 3 (.int .i64 (maxF (-1) xs))
  bel : Below (w.heap.size + 1) (w.alloc o) wr

theorem CAt.old {w : World} {o : Obj} {wr : World} {xs : List (Int × St)} (h : CAt w o wr xs) : Below w.heap.size w wr := ((Below.refl _ _).alloc (Nat.le_refl _) o).trans (h.bel.mono (by omega))

/-- Behind one more row. -/
theorem CAt.more {w : World} {o o' : Obj} {wr w' : World} {xs ys : List (Int × St)} (h : CAt w o wr xs) (t : Touch (fun b => b = w.heap.size + 1 ∨ b = w.heap.size + 2) (wr.alloc o') w')
    (h1 : Boxed w' (w.heap.size + 1) 3 (.int .i64 (cntF (cntF 0 xs) ys))) (h2 : Boxed w' (w.heap.size + 2) 3 (.int .i64 (maxF (maxF (-1) xs) ys))) : CAt w o w' (xs ++ ys) := by
  have l2 := h.m.lt
  refine ⟨by rw [cntF_app]; exact h1, by rw [maxF_app]; exact h2, h.bel.trans ?_⟩
  have k : Below wr.heap.size wr (wr.alloc o') := (Below.refl _ _).alloc (Nat.le_refl _) _
  exact (k.mono (by omega)).trans (t.below (fun i hi => by simp; omega))

theorem below_drewN {B : Nat} {a w : World} (h : Below B a w) (n : Nat) : Below B a (w.drewN n) := ⟨h.os, h.tape, h.output, h.size, h.block⟩

set_option maxRecDepth 100000 in
set_option maxHeartbeats 4000000 in
theorem count_any (p : Pg) (w : World) (G : Nat → Prop) (hp : p.ok w G) :
    Calls Try.prog 20 #[p.val] w fun e w' => e = .returned (.tuple #[.int .i64 (cntF 0 (funsL p.funs ++ thsL p.threads)), .int .i64 (maxF (-1) (funsL p.funs ++ thsL p.threads))]) ∧ Below w.heap.size w w' := by
  obtain ⟨-, -, ⟨hf, hfo⟩, ht, hto⟩ := hp
  obtain ⟨recs, rv, globs, gv, funs, fv, ths, tv⟩ := p
  simp only [Pg.val, Pg.cells] at *
  have D := fun (l : List St) (v : Value) (W : World) (hl : stsOk W (fun b => b < w.heap.size) v l) n m h1 h2 => count1_any l v W (fun b => b < w.heap.size) hl (w.heap.size + 1) (w.heap.size + 2) (by omega) (fun b hb => by omega) n m h1 h2
  have hnf := hf.1.2
  have hnt := ht.1.2
  obtain ⟨pf, cf, rfl⟩ := hf.form
  obtain ⟨pt, ct, rfl⟩ := ht.form
  replace hf := hid hf
  replace ht := hid ht
  have A1 := hid (hfo)
  have A2 := hid (hto)
  clear hfo hto
  go_enter Try.func20, Try.ntmps20
  go_wp2_with fail
  go_loopw [15] (fun i wr => ∃ k : Nat, k ≤ funs.length ∧ i = .int .i64 k ∧ Hid (CAt w (.cells #[rv, gv, .slice pf funs.length cf, .slice pt ths.length ct] 29) wr (funsL (funs.take k)))) (fun i _ => funs.length - (intOf i).toNat)
  case atStart =>
    refine ⟨0, Nat.zero_le _, rfl, hid ⟨?_, ?_, ?_⟩⟩
    · have := (Boxed.new (w.alloc (.cells #[rv, gv, .slice pf funs.length cf, .slice pt ths.length ct] 29)) 3 (.int .i64 0)).alloc (.cells #[.int .i64 (-1)] 3)
      rwa [World.size_alloc] at this
    · have := Boxed.new ((w.alloc (.cells #[rv, gv, .slice pf funs.length cf, .slice pt ths.length ct] 29)).alloc (.cells #[.int .i64 0] 3)) 3 (.int .i64 (-1))
      rwa [World.size_alloc, World.size_alloc] at this
    · exact (below_two _ _ _).mono (by simp)
  case round =>
    obtain ⟨k, hk, rfl, hat⟩ := hrel
    by_cases hlt : k < funs.length
    · obtain ⟨x, hx⟩ : ∃ x, funs[k]? = some x := ⟨_, List.getElem?_eq_getElem hlt⟩
      obtain ⟨g1, c1, e1, f1, s1, r1⟩ := (hf.out.kept hat.out.old).elem Fn.len hx
      replace e1 := (Value.slice.inj e1).1
      subst e1
      have hxo := hid (A1.out x (List.mem_of_getElem? hx))
      have E := hid (funsL_snoc funs k x hx)
      replace r1 := hid r1
      have hbl := hid hat.out.old
      have cc : ∀ o, o = .cells x.cells.toArray 58 → (wr.alloc o).cell? ⟨wr.heap.size, 2, none⟩ = some x.bv := fun o ho => by subst ho; exact range_cell (rangeAt_new wr x.cells 58) 2 rfl
      replace cc := cc _ rfl
      have hst : Hid (stsOk (wr.alloc (.cells x.cells.toArray 58)) (fun b => b < w.heap.size) x.bv x.body) := hid (((hxo.out.2).mono (fun g _ hg => hg)).kept (hbl.out.trans (((Below.refl _ _).alloc (Nat.le_refl _) _).mono hbl.out.size)))
      have DD := D x.body x.bv _ hst.out _ _ (hat.out.n.alloc _) (hat.out.m.alloc _)
      have o1 := hid (Fn.one' hxo.out)
      clear hx f1 hst hxo
      go_wp2_with (first
        | refine wl_load 58 _ rfl rfl g1 (k * 5) rfl x.cells r1.out agg58 ?_
        | refine wl_store_new 58 _ _ rfl rfl _ 58 _ rfl _ rfl rfl x.cells rfl agg58 rfl o1.out ?_
        | (go_at_call 42; refine DD.mono ?_; rintro e w' ⟨⟨r, rfl⟩, t1, h1, h2⟩))
      go_roundw
      case rel => exact ⟨k + 1, by omega, by go_num, hid (by rw [E.out]; exact hat.out.more t1 h1 h2)⟩
      case measure => simp [intOf]; omega
    · have ef : funs.take k = funs := List.take_of_length_le (by omega)
      rw [ef] at hat
      clear ef
      have c0 : wr.cell? ⟨w.heap.size, 3, none⟩ = some (.slice pt ths.length ct) := (hat.out.bel.cell (p := ⟨w.heap.size, 3, none⟩) (by simp)).trans (range_cell (rangeAt_new w [rv, gv, .slice pf funs.length cf, .slice pt ths.length ct] 29) 3 rfl)
      go_wp2_with fail
      go_loopw [27] (fun i wr => ∃ k : Nat, k ≤ ths.length ∧ i = .int .i64 k ∧ Hid (CAt w (.cells #[rv, gv, .slice pf funs.length cf, .slice pt ths.length ct] 29) wr (funsL funs ++ thsL (ths.take k)))) (fun i _ => ths.length - (intOf i).toNat)
      case atStart => exact ⟨0, Nat.zero_le _, rfl, by simpa [thsL] using hat⟩
      case round =>
        clear hat c0
        obtain ⟨k, hk, rfl, hat⟩ := hrel
        by_cases hlt : k < ths.length
        · obtain ⟨x, hx⟩ : ∃ x, ths[k]? = some x := ⟨_, List.getElem?_eq_getElem hlt⟩
          obtain ⟨g1, c1, e1, f1, s1, r1⟩ := (ht.out.kept hat.out.old).elem Th.len hx
          replace e1 := (Value.slice.inj e1).1
          subst e1
          have hxo := hid (A2.out x (List.mem_of_getElem? hx))
          have E := hid (thsL_snoc ths k x hx)
          replace r1 := hid r1
          have hbl := hid hat.out.old
          have cc : ∀ o, o = .cells x.cells.toArray 37 → (wr.alloc o).cell? ⟨wr.heap.size, 0, none⟩ = some x.bv := fun o ho => by subst ho; exact range_cell (rangeAt_new wr x.cells 37) 0 rfl
          replace cc := cc _ rfl
          have hst : Hid (stsOk (wr.alloc (.cells x.cells.toArray 37)) (fun b => b < w.heap.size) x.bv x.body) := hid (((hxo.out : stsOk w G x.bv x.body).mono (fun g _ hg => hg)).kept (hbl.out.trans (((Below.refl _ _).alloc (Nat.le_refl _) _).mono hbl.out.size)))
          have DD := D x.body x.bv _ hst.out _ _ (hat.out.n.alloc _) (hat.out.m.alloc _)
          have o1 := hid (Th.one' hxo.out)
          clear hx f1 hst hxo
          go_wp2_with (first
            | refine wl_load 37 _ rfl rfl g1 (k * 3) rfl x.cells r1.out agg37 ?_
            | refine wl_store_new 37 _ _ rfl rfl _ 37 _ rfl _ rfl rfl x.cells rfl agg37 rfl o1.out ?_
            | (go_at_call 42; refine DD.mono ?_; rintro e w' ⟨⟨r, rfl⟩, t1, h1, h2⟩))
          go_roundw
          case rel => exact ⟨k + 1, by omega, by go_num, hid (by rw [E.out, ← List.append_assoc]; exact hat.out.more t1 h1 h2)⟩
          case measure => simp [intOf]; omega
        · have et : ths.take k = ths := List.take_of_length_le (by omega)
          rw [et] at hat
          have c1 := hat.out.n.cell
          have c2 := hat.out.m.cell
          go_wp2_with fail
          go_quiet (fail)
          go_wp2
          go_ret2
          exact ⟨rfl, below_drewN hat.out.old nq⟩
end Go.Proofs.Ytfdfeiempeciiaa
