/- The contract of walk: it hands over all statements of a row, or is stopped. -/
import Derived.Test.YtfdfeiempeciiaaFlat
namespace Go.Proofs.Ytfdfeiempeciiaa
open Go.ChangeShapes Go.WideShapes Go.ChangeAt Go.RowKit
set_option linter.unusedVariables false
attribute [local go_sem] Oper.semAt_some

/-- What is handed over as number k of a row. -/
def FitAt (all : List (Int × St)) (k : Nat) (args : Array Value) (_ : World) : Prop := ∃ x, all[k]? = some x ∧ args = #[.int .i64 x.1, x.2.val]

/-- What walk does with a row. -/
def WalkOk (F : Fence) (G : Nat → Prop) (T : Nat → Prop) (lp : Nat) (all : List (Int × St)) (J : Nat → World → Prop) (Jx : World → Prop) (l : List St) : Prop :=
  ∀ (n k : Nat) (d : Int) (v : Value) (W : World), stsOk W G v l → J k W → From all k (flatL d l) →
    CallsIn F n Try.prog 51 #[v, .int .i64 d, .func (.yield lp) #[] #[]] W fun e W' =>
      Touch (fun b => T b ∨ b = lp) W W' ∧ ((e = .returned (.bool true) ∧ J (k + (flatL d l).length) W') ∨ (e = .returned (.bool false) ∧ Jx W'))

theorem stsOk.touch {w w' : World} {G T : Nat → Prop} {v : Value} {l : List St} (h : stsOk w G v l) (t : Touch T w w') (hG : ∀ b, G b → ¬ T b) : stsOk w' G v l := h.keep (fun g hg hlt => t.block g hlt (hG g hg))

set_option maxRecDepth 100000 in
set_option maxHeartbeats 4000000 in
theorem walk_step (F : Fence) (hd : F.depth = none) (h51 : F.fn 51) (hro : F.round = none) (G : Nat → Prop) (T : Nat → Prop) (lp : Nat) (hG : ∀ b, G b → ¬ (T b ∨ b = lp)) (all : List (Int × St)) (J : Nat → World → Prop) (Jx : World → Prop)
    (hY : ∀ m, Rounds F m lp all.length T (FitAt all) J Jx) (l : List St) (ih : ∀ s ∈ l, WalkOk F G T lp all J Jx s.body ∧ WalkOk F G T lp all J Jx s.els) : WalkOk F G T lp all J Jx l := by
  intro n k d v W hl hJ hall
  have hdd : ∀ k : Nat, (F.depth.isSome = true → 1 ≤ k) := fun k h => by rw [hd] at h; cases h
  have hn := hl.1.1.2
  obtain ⟨pv, cv, rfl⟩ := hl.1.form
  refine callsIn_of_wp Try.func51 rfl h51 ?_ hro
  simp only [Try.ntmps51, List.size_toArray, List.length_cons, List.length_nil, Nat.reduceAdd, Nat.reduceSub, Array.replicate_succ, Array.replicate_zero, List.push_toArray, List.append_toArray, List.nil_append, List.cons_append]
  gi_wp2
  gi_loopw [10] (fun i wr => ∃ j : Nat, j ≤ l.length ∧ i = .int .i64 j ∧ Hid (Touch (fun b => T b ∨ b = lp) W wr ∧ J (k + (flatL d (l.take j)).length) wr)) (fun i _ => l.length - (intOf i).toNat)
  case atStart => exact ⟨0, Nat.zero_le _, rfl, hid ⟨Touch.refl _ _, hJ⟩⟩
  case round =>
    obtain ⟨j, hj, rfl, hat⟩ := hrel
    by_cases hlt : j < l.length
    · obtain ⟨s, hs⟩ : ∃ s, l[j]? = some s := ⟨_, List.getElem?_eq_getElem hlt⟩
      have hlw := hid (hl.touch hat.out.1 hG)
      obtain ⟨g1, c1, e1, f1, s1, r1⟩ := hlw.out.1.elem St.len hs
      replace e1 := (Value.slice.inj e1).1
      subst e1
      have hmem := List.mem_of_getElem? hs
      have hsok := hid (fun X (hX : Touch (fun b => T b ∨ b = lp) wr X) => (hlw.out.2 s hmem).keep (fun g hg hlt => hX.block g hlt (hG g hg)))
      have hcell := hid (fun X (hX : Touch (fun b => T b ∨ b = lp) wr X) (o : Nat) (u : Value) (hu : s.cells[o]? = some u) => (by
        have e := r1 o u hu
        rw [World.cell?_of_block (w := wr) (hX.block g1 s1 (hG g1 f1))]
        exact e : X.cell? ⟨g1, j * 58 + o, none⟩ = some u))
      have hsp : l = l.take j ++ s :: l.drop (j + 1) := by
        have e := List.getElem?_eq_some_iff.1 hs
        obtain ⟨e1, e2⟩ := e
        rw [← e2]
        simp
      have htk : l.take (j + 1) = l.take j ++ [s] := by
        rw [List.take_add_one, hs]
        rfl
      have HF : Hid (From all (k + (flatL d (l.take j)).length) ((d, s) :: (flatL (wrap64 (d + 1)) s.body ++ (flatL (wrap64 (d + 1)) s.els ++ flatL d (l.drop (j + 1)))))) := hid (by
        have e := hall
        rw [hsp, flatL_app, flatL_cons] at e
        exact e.right)
      have EL : Hid (k + (flatL d (l.take (j + 1))).length = k + (flatL d (l.take j)).length + 1 + (flatL (wrap64 (d + 1)) s.body).length + (flatL (wrap64 (d + 1)) s.els).length) := hid (by
        rw [htk, flatL_app, flatL_cons, flatL_nil]
        simp
        omega)
      have hJ0 := hid hat.out.2
      have ht0 := hid hat.out.1
      have ib := (ih s hmem).1
      have ie := (ih s hmem).2
      clear hsp htk ih hall hlw hs hat
      generalize hK : k + (flatL d (l.take j)).length = K at *
      generalize hK2 : k + (flatL d (l.take (j + 1))).length = K2 at *
      replace hK2 := hid hK2
      clear hK
      have P3 : ∀ W2, Touch (fun b => T b ∨ b = lp) wr W2 → J (K + 1 + (flatL (wrap64 (d + 1)) s.body).length) W2 → W2.cell? ⟨g1, j * 58 + 55, none⟩ = some s.ev ∧
          CallsIn F (n - 1) Try.prog 51 #[s.ev, .int .i64 (wrap64 (d + 1)), .func (.yield lp) #[] #[]] W2 (fun e W3 => (e = .returned (.bool true) ∧ Hid (Touch (fun b => T b ∨ b = lp) W W3 ∧ J K2 W3)) ∨ (e = .returned (.bool false) ∧ Hid (Touch (fun b => T b ∨ b = lp) W W3 ∧ Jx W3))) := fun W2 t2 j2 =>
        ⟨hcell.out W2 t2 55 _ rfl, (ie (n - 1) _ _ _ _ ⟨(hsok.out W2 t2).hd.2.2.2.2.2.2, (hsok.out W2 t2).elses⟩ j2 HF.out.tail.right.left).mono (fun e W3 h => by
          rcases h with ⟨t3, ⟨he, h3⟩ | ⟨he, h3⟩⟩
          · exact .inl ⟨he, hid ⟨ht0.out.trans (t2.trans t3), by rw [EL.out]; exact h3⟩⟩
          · exact .inr ⟨he, hid ⟨ht0.out.trans (t2.trans t3), h3⟩⟩)⟩
      have P2 : ∀ W1, Touch (fun b => T b ∨ b = lp) wr W1 → J (K + 1) W1 → W1.cell? ⟨g1, j * 58 + 54, none⟩ = some s.bv ∧
          CallsIn F (n - 1) Try.prog 51 #[s.bv, .int .i64 (wrap64 (d + 1)), .func (.yield lp) #[] #[]] W1 (fun e W2 => (e = .returned (.bool true) ∧ W2.cell? ⟨g1, j * 58 + 55, none⟩ = some s.ev ∧
            CallsIn F (n - 1) Try.prog 51 #[s.ev, .int .i64 (wrap64 (d + 1)), .func (.yield lp) #[] #[]] W2 (fun e W3 => (e = .returned (.bool true) ∧ Hid (Touch (fun b => T b ∨ b = lp) W W3 ∧ J K2 W3)) ∨ (e = .returned (.bool false) ∧ Hid (Touch (fun b => T b ∨ b = lp) W W3 ∧ Jx W3))))
            ∨ (e = .returned (.bool false) ∧ Hid (Touch (fun b => T b ∨ b = lp) W W2 ∧ Jx W2))) := fun W1 t1 j1 =>
        ⟨hcell.out W1 t1 54 _ rfl, (ib (n - 1) _ _ _ _ ⟨(hsok.out W1 t1).hd.2.2.2.2.2.1, (hsok.out W1 t1).bodies⟩ j1 HF.out.tail.left).mono (fun e W2 h => by
          rcases h with ⟨t2, ⟨he, h2⟩ | ⟨he, h2⟩⟩
          · exact .inl ⟨he, P3 W2 (t1.trans t2) h2⟩
          · exact .inr ⟨he, hid ⟨ht0.out.trans (t1.trans t2), h2⟩⟩)⟩
      obtain ⟨fn, tmps, assign, body, hy, hR⟩ := YieldAt.mono (hY (n - 1) K #[.int .i64 d, .agg s.cells.toArray] wr hJ0.out HF.out.lt ⟨(d, s), HF.out.here, rfl⟩) (R' := fun e W1 =>
        (e = .returned (.bool true) ∧ W1.cell? ⟨g1, j * 58 + 54, none⟩ = some s.bv ∧
          CallsIn F (n - 1) Try.prog 51 #[s.bv, .int .i64 (wrap64 (d + 1)), .func (.yield lp) #[] #[]] W1 (fun e W2 => (e = .returned (.bool true) ∧ W2.cell? ⟨g1, j * 58 + 55, none⟩ = some s.ev ∧
            CallsIn F (n - 1) Try.prog 51 #[s.ev, .int .i64 (wrap64 (d + 1)), .func (.yield lp) #[] #[]] W2 (fun e W3 => (e = .returned (.bool true) ∧ Hid (Touch (fun b => T b ∨ b = lp) W W3 ∧ J K2 W3)) ∨ (e = .returned (.bool false) ∧ Hid (Touch (fun b => T b ∨ b = lp) W W3 ∧ Jx W3))))
            ∨ (e = .returned (.bool false) ∧ Hid (Touch (fun b => T b ∨ b = lp) W W2 ∧ Jx W2))))
        ∨ (e = .returned (.bool false) ∧ Hid (Touch (fun b => T b ∨ b = lp) W W1 ∧ Jx W1))) (fun e W1 h => by
          rcases h with ⟨he, h1, t1⟩ | ⟨he, h1, t1⟩
          · exact .inl ⟨he, P2 W1 t1 h1⟩
          · exact .inr ⟨he, hid ⟨ht0.out.trans t1, h1⟩⟩)
      replace r1 := hid r1
      clear P2 P3 hY ib ie hcell hsok hJ0 ht0 HF EL hl hJ
      gi_wp2_with (first
        | refine wli_load 52 _ rfl rfl g1 (j * 58) rfl s.cells r1.out s.agg ?_
        | ((try refine ⟨hdd _, ?_⟩); refine hR.mono ?_; clear hR; rintro e W1 (⟨rfl, cb, hB⟩ | ⟨rfl, hx1⟩))
        | ((try refine ⟨hdd _, ?_⟩); gi_at_call 51; refine hB.mono ?_; clear hB; rintro e W2 (⟨rfl, ce, hE⟩ | ⟨rfl, hx2⟩))
        | ((try refine ⟨hdd _, ?_⟩); gi_at_call 51; refine hE.mono ?_; clear hE; rintro e W3 (⟨rfl, hx4⟩ | ⟨rfl, hx3⟩)))
      · go_roundw
        case rel => exact ⟨j + 1, by omega, by go_num, by rw [hK2.out]; exact hx4⟩
        case measure => simp [intOf]; omega
      all_goals go_ret
      · exact ⟨hx3.out.1, .inr ⟨rfl, hx3.out.2⟩⟩
      · exact ⟨hx2.out.1, .inr ⟨rfl, hx2.out.2⟩⟩
      · exact ⟨hx1.out.1, .inr ⟨rfl, hx1.out.2⟩⟩
    · gi_wp2
      go_ret
      have hkl : l.take j = l := List.take_of_length_le (by omega)
      rw [hkl] at hat
      exact ⟨hat.out.1, .inl ⟨rfl, hat.out.2⟩⟩

theorem walk_any (F : Fence) (hd : F.depth = none) (h51 : F.fn 51) (hro : F.round = none) (G : Nat → Prop) (T : Nat → Prop) (lp : Nat) (hG : ∀ b, G b → ¬ (T b ∨ b = lp)) (all : List (Int × St)) (J : Nat → World → Prop) (Jx : World → Prop)
    (hY : ∀ m, Rounds F m lp all.length T (FitAt all) J Jx) (l : List St) : WalkOk F G T lp all J Jx l := by
  have h : ∀ s : St, WalkOk F G T lp all J Jx s.body ∧ WalkOk F G T lp all J Jx s.els := fun s => by
    induction s using St.ind with
    | h s ih1 ih2 => exact ⟨walk_step F hd h51 hro G T lp hG all J Jx hY s.body ih1, walk_step F hd h51 hro G T lp hG all J Jx hY s.els ih2⟩
  exact walk_step F hd h51 hro G T lp hG all J Jx hY l (fun s _ => h s)

set_option maxRecDepth 100000 in
set_option maxHeartbeats 1000000 in
/-- The function that each hands back. -/
theorem each1_seq (F : Fence) (hd : F.depth = none) (h50 : F.fn 50) (h51 : F.fn 51) (hro : F.round = none) (G : Nat → Prop) (T : Nat → Prop) (hG : ∀ b, G b → ¬ T b) (l : List St) (v : Value) (Bk : Nat) (w : World) (hB : w.cell? ⟨Bk, 0, none⟩ = some v) (hl : stsOk w G v l) (n : Nat) :
    Seq F n 50 #[.pointer (some ⟨Bk, 0, none⟩)] (flatL 0 l).length T (FitAt (flatL 0 l)) w := by
  intro lp J Jx W hW hl1 hl2 hJs hJxs hY hJ0
  have hdd : ∀ k : Nat, (F.depth.isSome = true → 1 ≤ k) := fun k h => by rw [hd] at h; cases h
  have C := walk_any F hd h51 hro (fun b => G b ∧ b < w.heap.size) T lp (fun b hb h => h.elim (hG b hb.1) (fun e => by have := hb.2; omega)) (flatL 0 l) J Jx hY l (n - 1) 0 0 v W ((hl.mono (fun g h1 h2 => ⟨h1, h2⟩)).kept hW) hJ0 (From.all _)
  have hc : W.cell? ⟨Bk, 0, none⟩ = some v := (hW.cell (p := ⟨Bk, 0, none⟩) (World.block_lt_of_cell? w _ hB)).trans hB
  obtain ⟨pv, cv, rfl⟩ := hl.1.form
  clear hB hl hY hJ0 hJs hJxs hW
  refine callsIn_of_wp Try.func50 rfl h50 ?_ hro
  simp only [Try.ntmps50, List.size_toArray, List.length_cons, List.length_nil, Nat.reduceAdd, Nat.reduceSub, Array.replicate_succ, Array.replicate_zero, List.push_toArray, List.append_toArray, List.nil_append, List.cons_append]
  gi_wp2_with ((try refine ⟨hdd _, ?_⟩); gi_at_call 51; refine C.mono ?_; clear C; rintro e W1 ⟨-, ⟨rfl, h1⟩ | ⟨rfl, h1⟩⟩)
  · go_end0
    exact ⟨⟨_, rfl⟩, .inl (by simpa using h1)⟩
  · go_end0
    exact ⟨⟨_, rfl⟩, .inr h1⟩

set_option maxRecDepth 100000 in
theorem each_any (v : Value) (hv : ∃ p n c, v = .slice p n c) (w : World) : Calls Try.prog 41 #[v] w fun e w' => e = .returned (.func (.func 50) #[] #[.pointer (some ⟨w.heap.size, 0, none⟩)]) ∧ w' = w.alloc (.cells #[v] 35) := by
  obtain ⟨p, n, c, rfl⟩ := hv
  go_enter Try.func41, Try.ntmps41
  go_wp2
  go_ret
  exact ⟨rfl, rfl⟩
end Go.Proofs.Ytfdfeiempeciiaa
