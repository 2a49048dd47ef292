/- The contract of All: a function that hands over the copies of a row's statements. -/
import Derived.Test.YtfdfeiempeciiaaWithin
import Derived.Test.YtfdfeiempeciiaaJoinD
namespace Go.Proofs.Ytfdfeiempeciiaa
open Go.ChangeShapes Go.WideShapes Go.ChangeAt Go.RowKit Go.Shelf
set_option linter.unusedVariables false

set_option maxRecDepth 100000 in
set_option maxHeartbeats 1000000 in
/-- What All answers: the function, the box of the copied row, the box of a truth value. -/
theorem all_any (l : List St) (v : Value) (w : World) (F : Nat → Prop) (hl : stsOk w F v l) (ht : (rowT l).length ≤ 2000000) :
    Calls Try.prog 40 #[v] w fun e w' => ∃ (k1 k2 : Nat) (p : Option Addr) (n c : Nat) (l' : List St) (b : Bool), e = .returned (.func (.func 48) #[] #[.pointer (some ⟨k1, 0, none⟩), .pointer (some ⟨k2, 0, none⟩)]) ∧ w.heap.size ≤ k1 ∧ k1 < k2 ∧
      VarAt w' k1 [.slice p n c] 35 ∧ VarAt w' k2 [.bool b] 4 ∧ l'.map St.bare = l.map St.bare ∧ stsOk w' (fun g => w.heap.size ≤ g ∧ g < k1) (.slice p n c) l' ∧ Below w.heap.size w w' := by
  have C := hid (ownStmts_any l v w F hl ht)
  obtain ⟨p0, c0, rfl⟩ := hl.1.form
  have n47 := hl.1.1.2
  clear hl
  go_enter Try.func40, Try.ntmps40
  go_wp2_with fail
  refine C.out.mono ?_
  rintro r w1 ⟨p, n, c, l', rfl, h1, h2, h3, h4⟩
  have el : l'.length = l.length := by have := congrArg List.length h1; simpa using this
  have so : stsOk w1 (fun g => w.heap.size ≤ g ∧ g < w1.heap.size) (.slice p n c) l' := ⟨RowAt.of_owns h2 (by omega) (fun g hg => own_lt h2 hg), fun k hk => (h3 k hk).mono (fun g hg hl => ⟨hg.1, hl⟩)⟩
  have z1 := h4.size
  have D := hid (within_any l' (.slice p n c) (w1.alloc (.cells #[.slice p n c] 35)) _ (so.kept ((Below.refl _ _).alloc (Nat.le_refl _) _)))
  have V := hid (VarAt.new w1 [.slice p n c] 35)
  replace so := hid so
  replace h1 := hid h1
  replace h4 := hid h4
  clear C h2 h3 el
  go_wp2_with (go_at_call 47; refine D.out.mono ?_; rintro r w2 ⟨⟨q, rfl⟩, hb⟩; replace V := hid (V.out.kept hb); have hb' := hid (Below.over ((Below.refl w1.heap.size w1).alloc (Nat.le_refl _) (.cells #[.slice p n c] 35)) hb); clear hb)
  go_ret
  have z2 := V.out.lt
  have ba : Below w2.heap.size w2 (w2.alloc (.cells #[.bool (decide (q ≤ 4194304))] 4)) := (Below.refl _ _).alloc (Nat.le_refl _) _
  exact ⟨w1.heap.size, w2.heap.size, p, n, c, l', decide (q ≤ 4194304), rfl, z1, z2, V.out.kept ba, VarAt.new w2 [.bool (decide (q ≤ 4194304))] 4, h1.out, (so.out.kept hb'.out).kept ba, Below.over h4.out (Below.over hb'.out ba)⟩
end Go.Proofs.Ytfdfeiempeciiaa

/- A range over the function that All answers. -/
namespace Go.Proofs.Ytfdfeiempeciiaa
open Go.ChangeShapes Go.WideShapes Go.ChangeAt Go.RowKit Go.Shelf
set_option linter.unusedVariables false

/-- As wpIn_range, where rounds may touch blocks that are made on the way. -/
theorem wpIn_range2 {F : Fence} {n : Nat} {g : Operand} {ps : Array Tmp} {assign body : Code} {Q : Exit → Act → World → Prop} {a : Act} {w : World}
    (hro : F.round = none) (hd : F.depth = none) {gf : Nat} {lb : Array Value} (hg : a.eval g = .func (.func gf) #[] lb) (hFg : F.fn gf) (eg : ∀ args w, (callFunc gf args).run Try.prog w = .ok (.enter gf args) w)
    {N : Nat} {T : Nat → Prop} {Fit : Nat → Array Value → World → Prop} (hseq : ∀ n, Seq F n gf lb N T Fit w) (hT : ¬ T w.heap.size ∧ ¬ T (w.heap.size + 1)) (hps : ∀ k args W, Fit k args W → args.size = ps.size)
    (I : Nat → World → Prop) (Ix : Code → World → Prop) (hI : Stays w.heap.size I) (hIx : Stays w.heap.size Ix) (h0 : I 0 w) (A : Nat → Act → World → Prop)
    (hA : ∀ k a' W W', A k a' W → (∀ b, b ≠ w.heap.size + 1 → W'.heap[b]? = W.heap[b]?) → W'.heap.size = W.heap.size → A k a' W')
    (hassign : ∀ (l k : Nat) (args : Array Value) (W : World) (K : Act → World → Prop), Fit k args W → w.heap.size + 2 ≤ W.heap.size → (∀ a' W', Below W.heap.size W W' → A k a' W' → K a' W') →
      assign.wpIn (F.inRound l) n Try.prog (Exit.then K (fun _ _ _ => False)) { tmps := (ps.zip args).foldl (fun t (p, v) => t.setIfInBounds p v) a.tmps, defers := [] } W)
    (hbody : ∀ (l k : Nat) (a' : Act) (W : World), I k W → k < N → A k a' W → w.heap.size + 2 ≤ W.heap.size → body.wpIn (F.inRound l) n Try.prog (endPost T I Ix k W) a' W)
    (hdone : ∀ (D : Nat) (W : World), I N W → w.heap.size ≤ D → W.heap[D]? = some (.deferred (some [])) → Q .normal { a with defers := { target := .collected D, args := #[] } :: a.defers } W)
    (hstop : ∀ (D : Nat) (c : Code) (W : World), Ix c W → w.heap.size ≤ D → W.heap[D]? = some (.deferred (some [])) → c.wpIn F n Try.prog Q { a with defers := { target := .collected D, args := #[] } :: a.defers } W) :
    (Code.rangeFunc g ps assign body).wpIn F n Try.prog Q a w := by
  refine wpIn_rangeFunc fun fn hfn => ?_
  rw [hro]
  have hdd : F.depth.isSome = true → 1 ≤ n := fun h => by rw [hd] at h; cases h
  generalize hR : (fun (st : LoopState) (pe : Option Code) => ({ state := st, pending := pe, fn, tmps := a.tmps, params := ps, assign, body, defers := w.heap.size } : Loop)) = R
  generalize hW : (w.alloc (.deferred (some []))).alloc (.loop (R .ready none)) = W1
  have b1 : Below w.heap.size w W1 := by rw [← hW]; exact below_two _ _ _
  have s1 : W1.heap.size = w.heap.size + 2 := by rw [← hW]; simp
  have q1 : W1.heap[w.heap.size + 1]? = some (.loop (R .ready none)) := by
    rw [← hW]
    have := World.alloc_heap_new (w.alloc (.deferred (some []))) (.loop (R .ready none))
    rwa [World.size_alloc] at this
  have q2 : W1.heap[w.heap.size]? = some (.deferred (some [])) := by
    rw [← hW, Below.heap_alloc _ _ _ (by simp)]
    exact World.alloc_heap_new w _
  refine ⟨w.heap.size + 1, [{ target := .collected w.heap.size, args := #[] }], W1, { target := .fn (.func gf) lb, args := #[.func (.yield (w.heap.size + 1)) #[] #[]] }, W1, gf, #[.func (.yield (w.heap.size + 1)) #[] #[]] ++ lb, W1, ?_, ?_, ?_, ?_, hdd, ?_⟩
  · rw [← hW, ← hR]
    exact run_enterLoop_outer _ _ _ _ _
  · simp only [resolve, hg]
    simp [go_sem]
  · intro f' hf'
    simp [Target.leads] at hf'
    subst hf'
    exact hFg
  · simp [invoke, go_sem, eg]
  · refine (hseq (n - 1) (w.heap.size + 1) (fun k W => I k W ∧ w.heap.size + 2 ≤ W.heap.size ∧ W.heap[w.heap.size + 1]? = some (.loop (R .ready none)) ∧ W.heap[w.heap.size]? = some (.deferred (some [])))
      (fun W => ∃ c, Ix c W ∧ W.heap[w.heap.size + 1]? = some (.loop (R .done (some c))) ∧ W.heap[w.heap.size]? = some (.deferred (some []))) W1 b1 (by omega) (by omega) ?_ ?_ ?_ ⟨hI _ _ _ h0 b1, by omega, q1, q2⟩).mono ?_
    · rintro k X Y ⟨x1, x2, x3, x4⟩ hb
      exact ⟨hI _ _ _ x1 (hb.mono (by omega)), Nat.le_trans x2 hb.size, (hb.block _ (by omega)).trans x3, (hb.block _ (by omega)).trans x4⟩
    · rintro - X Y ⟨c, x1, x3, x4⟩ hb
      exact ⟨c, hIx _ _ _ x1 (hb.mono (by omega)), (hb.block _ (by omega)).trans x3, (hb.block _ (by omega)).trans x4⟩
    · rintro m k args W ⟨x1, x2, x3, x4⟩ hk hf
      have hy := run_yield (P := Try.prog) (args := args) x3 (by rw [← hR]; exact hps k args W hf)
      rw [← hR] at hy
      refine ⟨fn, _, assign, body, hy, rounds_any hd (roundIn_of_wpIn hfn (hassign (w.heap.size + 1) k args W _ hf x2 fun a' W' hb hA' => ?_))⟩
      have z1 := hb.size
      have y1 : W'.heap[w.heap.size + 1]? = some (.loop (R .ready none)) := (hb.block _ (by omega)).trans x3
      have y2 : W'.heap[w.heap.size]? = some (.deferred (some [])) := (hb.block _ (by omega)).trans x4
      have r1 := run_beginRound (P := Try.prog) y1 (by rw [← hR])
      have e1 : ({ R .ready none with state := .busy } : Loop) = R .busy none := by rw [← hR]
      rw [e1] at r1
      refine ⟨_, r1, ?_⟩
      generalize hW2 : W'.putObj (w.heap.size + 1) (.loop (R .busy none)) = W2
      have z2 : W2.heap.size = W'.heap.size := by rw [← hW2]; simp [World.putObj]
      have u1 : W2.heap[w.heap.size + 1]? = some (.loop (R .busy none)) := by rw [← hW2]; exact World.putObj_heap_same (by omega)
      have u2 : W2.heap[w.heap.size]? = some (.deferred (some [])) := by rw [← hW2]; exact (World.putObj_heap_other (by omega)).trans y2
      have t12 : Touch (fun b => T b ∨ b = w.heap.size + 1) W W2 := (Touch.of_below hb).trans (by rw [← hW2]; exact Touch.putObj _ _ _ (.inr rfl))
      have b12 : Below w.heap.size W W2 := (hb.mono (by omega)).trans (by rw [← hW2]; exact below_putObj _ _ _ (by omega))
      have a2 : A k a' W2 := hA k a' W' W2 hA' (fun b hb' => by rw [← hW2]; exact World.putObj_heap_other hb') z2
      refine wpIn_mono (hbody (w.heap.size + 1) k a' W2 (hI _ _ _ x1 b12) hk a2 (by omega)) ?_
      have fin : ∀ (jump : Option Code) (W3 : World), Touch T W2 W3 → ∃ W4, (Instr.endRound (w.heap.size + 1) jump).run Try.prog W3 = .ok (.bool jump.isNone) W4 ∧ Below w.heap.size W3 W4 ∧ w.heap.size + 2 ≤ W4.heap.size ∧
          W4.heap[w.heap.size + 1]? = some (.loop (R (if jump.isNone then .ready else .done) jump)) ∧ W4.heap[w.heap.size]? = some (.deferred (some [])) ∧ Touch (fun b => T b ∨ b = w.heap.size + 1) W W4 := fun jump W3 t3 => by
        have v1 : W3.heap[w.heap.size + 1]? = some (.loop (R .busy none)) := (t3.block _ (by omega) hT.2).trans u1
        have v2 : W3.heap[w.heap.size]? = some (.deferred (some [])) := (t3.block _ (by omega) hT.1).trans u2
        have r2 := run_endRound (P := Try.prog) jump v1
        have e2 : ({ R .busy none with state := if jump.isNone then .ready else .done, pending := jump } : Loop) = R (if jump.isNone then .ready else .done) jump := by rw [← hR]
        rw [e2] at r2
        have z3 := t3.size
        exact ⟨_, r2, below_putObj _ _ _ (by omega), by simp [World.putObj]; omega, World.putObj_heap_same (by omega), (World.putObj_heap_other (by omega)).trans v2,
          t12.trans ((t3.mono (fun _ _ h => .inl h)).trans (Touch.putObj _ _ _ (.inr rfl)))⟩
      rintro e a3 W3 hp
      cases e with
      | normal =>
        obtain ⟨W4, f1, f2, f3, f4, f5, f6⟩ := fin none W3 hp.1
        exact ⟨_, W4, f1, .inl ⟨rfl, ⟨hI _ _ _ hp.2 f2, f3, f4, f5⟩, f6⟩⟩
      | ret =>
        obtain ⟨W4, f1, f2, f3, f4, f5, f6⟩ := fin (some .ret) W3 hp.1
        exact ⟨_, W4, f1, .inr ⟨rfl, ⟨.ret, hIx _ _ _ hp.2 f2, f4, f5⟩, f6⟩⟩
      | exit id =>
        obtain ⟨W4, f1, f2, f3, f4, f5, f6⟩ := fin (some (.exit id)) W3 hp.1
        exact ⟨_, W4, f1, .inr ⟨rfl, ⟨.exit id, hIx _ _ _ hp.2 f2, f4, f5⟩, f6⟩⟩
      | goto t =>
        obtain ⟨W4, f1, f2, f3, f4, f5, f6⟩ := fin (some (.goto t)) W3 hp.1
        exact ⟨_, W4, f1, .inr ⟨rfl, ⟨.goto t, hIx _ _ _ hp.2 f2, f4, f5⟩, f6⟩⟩
      | panic ch => exact hp.elim
      | outgrown => exact hp.elim
    · rintro e W ⟨⟨v, rfl⟩, ⟨x1, x2, x3, x4⟩ | ⟨c, x1, x3, x4⟩⟩
      · have := run_endLoop (P := Try.prog) x3 (by rw [← hR]; simp)
        have e : (R .ready none).pending = none := by rw [← hR]
        rw [e] at this
        exact ⟨none, _, this, hdone w.heap.size _ (hI _ _ _ x1 (below_putObj W (w.heap.size + 1) _ (by omega))) (Nat.le_refl _) ((World.putObj_heap_other (by omega)).trans x4)⟩
      · have := run_endLoop (P := Try.prog) x3 (by rw [← hR]; simp)
        have e : (R .done (some c)).pending = some c := by rw [← hR]
        rw [e] at this
        exact ⟨some c, _, this, hstop w.heap.size c _ (hIx _ _ _ x1 (below_putObj W (w.heap.size + 1) _ (by omega))) (Nat.le_refl _) ((World.putObj_heap_other (by omega)).trans x4)⟩

attribute [local go_sem] Oper.semAt_some

theorem roundIn_in {F : Fence} {n : Nat} {P : Program} {l : Nat} {f : FuncId} {tmps : Array Value} {assign body : Code} {w : World} {R : Ending → World → Prop} (l2 : Nat) (h : RoundIn F n P l f tmps assign body w R) : RoundIn (F.inRound l2) n P l f tmps assign body w R := h
/-- What All hands over: how deep, and a statement, bare the same as the row's, that lies in memory, in other blocks than B. -/
def FitS (B : Nat) (all : List (Int × St)) (k : Nat) (args : Array Value) (W : World) : Prop := ∃ (x : Int × St) (s : St), all[k]? = some x ∧ args = #[.int .i64 x.1, s.val] ∧ s.bare = x.2.bare ∧ s.ok W (fun g => g ≠ B)
theorem flat_texts (s : St) : ∀ d, ∀ x ∈ s.flat d, x.2.texts.length ≤ s.texts.length := by
  induction s using St.ind with
  | h s ih1 ih2 =>
    intro d x hx
    rw [St.flat_eq] at hx
    have e := St.texts_eq s
    simp only [List.mem_cons, List.mem_append, flatL, List.mem_flatMap] at hx
    rcases hx with rfl | ⟨k, hk, hx⟩ | ⟨k, hk, hx⟩
    · exact Nat.le_refl _
    · have h1 := ih1 k hk _ x hx
      obtain ⟨i, hi⟩ := List.mem_iff_getElem?.1 hk
      have h2 := mem_take_len St.texts s.body i k hi
      rw [e]
      simp only [List.length_append]
      omega
    · have h1 := ih2 k hk _ x hx
      obtain ⟨i, hi⟩ := List.mem_iff_getElem?.1 hk
      have h2 := mem_take_len St.texts s.els i k hi
      rw [e]
      simp only [List.length_append]
      omega
theorem flatL_texts (l : List St) (d : Int) : ∀ x ∈ flatL d l, x.2.texts.length ≤ (rowT l).length := fun x hx => by
  simp only [flatL, List.mem_flatMap] at hx
  obtain ⟨k, hk, hx⟩ := hx
  have h1 := flat_texts k d x hx
  obtain ⟨i, hi⟩ := List.mem_iff_getElem?.1 hk
  have h2 := mem_take_len St.texts l i k hi
  simp only [rowT, List.length_append]
  omega

set_option maxRecDepth 100000 in
set_option maxHeartbeats 2000000 in
theorem all1_seq (T G : Nat → Prop) (hG : ∀ b, G b → ¬ T b) (l : List St) (k1 k2 : Nat) (p : Option Addr) (n c : Nat) (bb : Bool) (w : World) (hT : ∀ b, T b → b < w.heap.size) (h1 : VarAt w k1 [.slice p n c] 35) (h2 : VarAt w k2 [.bool bb] 4) (hk1 : ¬ T k1) (hk2 : ¬ T k2) (hl : stsOk w G (.slice p n c) l) (ht : (rowT l).length ≤ 2000000) (m : Nat) :
    Seq Fence.wide m 48 #[.pointer (some ⟨k1, 0, none⟩), .pointer (some ⟨k2, 0, none⟩)] (flatL 0 l).length T (FitS (w.heap.size + 1) (flatL 0 l)) w := by
  intro lp J Jx W hW hl1 hl2 hJs hJxs hY hJ0
  have C := fun X => each_any (.slice p n c) ⟨_, _, _, rfl⟩ X
  have c1 : (W.alloc (.cells #[.func (.yield lp) #[] #[]] 104)).cell? ⟨k1, 0, none⟩ = some (.slice p n c) := ((h1.kept hW).kept ((Below.refl _ _).alloc (Nat.le_refl _) _)).cell 0 rfl
  refine callsIn_of_wp_marks Try.func48 rfl trivial ?_ rfl
  simp only [Try.ntmps48, List.size_toArray, List.length_cons, List.length_nil, Nat.reduceAdd, Nat.reduceSub, Array.replicate_succ, Array.replicate_zero, List.push_toArray, List.append_toArray, List.nil_append, List.cons_append]
  gi_wp2_with (refine ⟨trivial, (fun h => by cases h), ?_⟩; gi_at_call 41; refine (callsIn_wide.2 (C _)).mono ?_; rintro e w' ⟨rfl, rfl⟩)
  have sW : ((W.alloc (.cells #[.func (.yield lp) #[] #[]] 104)).alloc (.cells #[.slice p n c] 35)).heap.size = W.heap.size + 2 := by simp only [World.size_alloc]
  have bW : Below W.heap.size W ((W.alloc (.cells #[.func (.yield lp) #[] #[]] 104)).alloc (.cells #[.slice p n c] 35)) := below_two _ _ _
  have zW := hW.size
  have v2 : VarAt ((W.alloc (.cells #[.func (.yield lp) #[] #[]] 104)).alloc (.cells #[.slice p n c] 35)) k2 [.bool bb] 4 := (h2.kept hW).kept bW
  have v3 : VarAt ((W.alloc (.cells #[.func (.yield lp) #[] #[]] 104)).alloc (.cells #[.slice p n c] 35)) W.heap.size [.func (.yield lp) #[] #[]] 104 := (VarAt.new W [.func (.yield lp) #[] #[]] 104).kept ((Below.refl _ _).alloc (Nat.le_refl _) _)
  have so2 : stsOk ((W.alloc (.cells #[.func (.yield lp) #[] #[]] 104)).alloc (.cells #[.slice p n c] 35)) (fun b => G b ∧ b < w.heap.size) (.slice p n c) l := ((hl.mono (fun g a b => ⟨a, b⟩)).kept hW).kept bW
  have zk2 := h2.lt
  have cE : ((W.alloc (.cells #[.func (.yield lp) #[] #[]] 104)).alloc (.cells #[.slice p n c] 35)).cell? ⟨W.heap.size + 1, 0, none⟩ = some (.slice p n c) := by
    have := (VarAt.new (W.alloc (.cells #[.func (.yield lp) #[] #[]] 104)) [.slice p n c] 35).cell 0 (v := .slice p n c) rfl
    rw [World.size_alloc] at this
    exact this
  have hS := fun n' => each1_seq Fence.wide rfl trivial trivial rfl (fun b => G b ∧ b < w.heap.size) (fun b => T b ∨ b = lp ∨ W.heap.size + 4 ≤ b) (fun b hb h => by
    rcases h with h | h | h
    · exact hG b hb.1 h
    · omega
    · omega) l (.slice p n c) (W.heap.size + 1) _ cE so2 n'
  generalize hW2 : (W.alloc (.cells #[.func (.yield lp) #[] #[]] 104)).alloc (.cells #[.slice p n c] 35) = W2 at *
  clear hW2 c1 cE C
  refine wpIn_range2 rfl rfl (gf := 50) (lb := #[.pointer (some ⟨W.heap.size + 1, 0, none⟩)]) rfl trivial (enters_of Try.func50 (by kernel_rfl) rfl) hS ⟨by
      rintro (h | h | h)
      · have := hT _ h; omega
      · omega
      · omega, by
      rintro (h | h | h)
      · have := hT _ h; omega
      · omega
      · omega⟩ (fun k args W h => by obtain ⟨x, _, rfl⟩ := h; rfl)
    (fun k X => J k X ∧ VarAt X k2 [.bool bb] 4 ∧ VarAt X W.heap.size [.func (.yield lp) #[] #[]] 104 ∧ stsOk X (fun b => G b ∧ b < w.heap.size) (.slice p n c) l) (fun c' X => c' = .ret ∧ Jx X) ?_ ?_ ⟨hJs _ _ _ hJ0 bW, v2, v3, so2⟩
    (fun k a' X => ∃ (x : Int × St) (b5 : Nat), (flatL 0 l)[k]? = some x ∧ W.heap.size + 4 ≤ b5 ∧ VarAt X b5 x.2.cells 52 ∧ a' = { tmps := #[.func (.yield lp) #[] #[], .pointer (some ⟨k1, 0, none⟩), .pointer (some ⟨k2, 0, none⟩), .pointer (some ⟨W.heap.size, 0, none⟩), .int .i64 x.1, .pointer (some ⟨b5, 0, none⟩), .slice p n c, .func (.func 50) #[] #[.pointer (some ⟨W.heap.size + 1, 0, none⟩)], .int .i64 x.1, .agg x.2.cells.toArray, undef, undef, undef, undef, undef, undef, undef], defers := [] }) ?hA ?assign ?body ?done ?stop
  · rintro k X X' ⟨a1, a2, a3, a4⟩ hb
    exact ⟨hJs _ _ _ a1 (hb.mono (by omega)), (hb.block _ (by omega)).trans a2, (hb.block _ (by omega)).trans a3, a4.keep (fun g hg _ => hb.block g (by omega))⟩
  · rintro c' X X' ⟨rfl, a1⟩ hb
    exact ⟨rfl, hJxs () _ _ a1 (hb.mono (by omega))⟩
  case hA =>
    rintro k a' X X' ⟨x, b5, e1, e2, e3, e4⟩ hb hs
    exact ⟨x, b5, e1, e2, (hb b5 (by omega)).trans e3, e4⟩
  case assign =>
    rintro lp2 k args X K ⟨x, hx, rfl⟩ hsz hK
    have one := hid (flatL_ok 0 so2.2 x (List.mem_of_getElem? hx)).hd.one
    unfold St.val
    gi_wp2_with (refine wli_store_new 52 _ _ rfl rfl X 52 _ rfl X.heap.size rfl rfl x.2.cells rfl x.2.agg rfl one.out ?_)
    exact hK _ _ ((Below.refl _ _).alloc (Nat.le_refl _) _) ⟨x, X.heap.size, hx, by omega, VarAt.new X x.2.cells 52, rfl⟩
  case body =>
    rintro lp2 k a' X ⟨hJ, hv2, hv3, hso⟩ hk ⟨x, b5, hx, hb5, hV5, rfl⟩ hsz
    have hmx := List.mem_of_getElem? hx
    have xok := hid (flatL_ok 0 hso.2 x hmx)
    have cb := hv2.cell 0 (v := .bool bb) rfl
    have cy := hv3.cell 0 (v := .func (.yield lp) #[] #[]) rfl
    have zv3 := hv3.lt
    have endT : Hid (∀ X1 X2 : World, Touch (fun g => g = b5) X X1 → Touch (fun b => T b ∨ b = lp) X1 X2 → Touch (fun b => T b ∨ b = lp ∨ W.heap.size + 4 ≤ b) X X2) := hid (fun X1 X2 t1 t2 => (t1.mono (fun i _ h => .inr (.inr (by omega)))).trans (t2.mono (fun i _ h => h.elim .inl (fun e => .inr (.inl e)))))
    have endI : Hid (∀ X1 X2 : World, Touch (fun g => g = b5) X X1 → Touch (fun b => T b ∨ b = lp) X1 X2 → VarAt X2 k2 [.bool bb] 4 ∧ VarAt X2 W.heap.size [.func (.yield lp) #[] #[]] 104 ∧ stsOk X2 (fun b => G b ∧ b < w.heap.size) (.slice p n c) l) := hid (fun X1 X2 t1 t2 => by
      have tt := endT.out X1 X2 t1 t2
      refine ⟨hv2.touch tt ?_, hv3.touch tt ?_, hso.keep (fun g hg hl => tt.block g hl ?_)⟩
      · rintro (h | h | h)
        · exact hk2 h
        · omega
        · omega
      · rintro (h | h | h)
        · have := hT _ h; omega
        · omega
        · omega
      · rintro (h | h | h)
        · exact hG g hg.1 h
        · omega
        · omega)
    have yl : Hid (∀ (m' : Nat) (s' : St) (X1 : World), Touch (fun g => g = b5) X X1 → s'.bare = x.2.bare → s'.ok X1 (fun g => g ≠ w.heap.size + 1) → YieldAt Fence.wide m' Try.prog lp #[.int .i64 x.1, .agg s'.cells.toArray] X1 fun e X2 => (e = .returned (.bool true) ∧ Hid (J (k + 1) X2 ∧ Touch (fun b => T b ∨ b = lp) X1 X2)) ∨ (e = .returned (.bool false) ∧ Hid (Jx X2 ∧ Touch (fun b => T b ∨ b = lp) X1 X2))) := hid (fun m' s' X1 t1 h1' h2' => YieldAt.mono (hY m' k #[.int .i64 x.1, .agg s'.cells.toArray] X1 (hJs _ _ _ hJ (t1.below (fun i hi => ⟨by omega, by omega⟩))) hk ⟨x, s', hx, rfl, h1', h2'⟩) (fun e X2 h => h.imp (fun h => ⟨h.1, hid h.2⟩) (fun h => ⟨h.1, hid h.2⟩)))
    have hdd : ∀ q : Nat, (Fence.wide.depth.isSome = true → 1 ≤ q) := fun q h => by cases h
    cases bb with
    | false =>
      obtain ⟨fn, tmps, asg, bdy, hy, hR⟩ := yl.out (m - 1) x.2 X (Touch.refl _ _) rfl (xok.out.mono (fun g hg _ => by have := hg.2; omega))
      replace hV5 := hid hV5
      clear hJ hv2 hv3 hso yl hS v2 v3 so2 hY hJs hJxs hJ0 hl h1 h2 hW bW
      gi_wp2_with (first
        | refine wli_load 52 _ rfl rfl b5 0 rfl x.2.cells hV5.out.range x.2.agg ?_
        | ((try refine ⟨hdd _, ?_⟩); refine RoundIn.mono (roundIn_in lp2 hR) ?_; clear hR; rintro e X2 (⟨rfl, hx1⟩ | ⟨rfl, hx1⟩)))
      · exact ⟨endT.out _ _ (Touch.refl _ _) hx1.out.2, hx1.out.1, endI.out _ _ (Touch.refl _ _) hx1.out.2⟩
      · exact ⟨endT.out _ _ (Touch.refl _ _) hx1.out.2, rfl, hx1.out.1⟩
    | true =>
      have C := hid (ownParts_any x.2 X (fun b => G b ∧ b < w.heap.size) b5 0 x.2.cells 52 hV5 (by rw [St.len]; omega) hV5.range xok.out (fun g hg => by omega) (Nat.le_trans (flatL_texts l 0 x hmx) ht))
      clear hJ hv2 hV5 hso hS v2 v3 so2 hY hJs hJxs hJ0 hl h1 h2 hW bW
      replace hv3 := hid hv3
      gi_wp2_with (first
        | ((try refine ⟨trivial, ?_⟩); (try refine ⟨hdd _, ?_⟩); gi_at_call 49
           refine ((callsIn_wide.2 C.out).inRound lp2).mono ?_
           rintro e X1 ⟨rfl, s', sb, so', sv, st⟩
           have cy1 := (hv3.out.touch st (by omega)).cell 0 (v := .func (.yield lp) #[] #[]) rfl
           rw [splice_full _ _ (by rw [St.len, St.len])] at sv
           obtain ⟨fn, tmps, asg, bdy, hy, hR⟩ := yl.out (m - 1) s' X1 st sb (so'.mono (fun g hg _ => by omega))
           replace sv := hid sv
           replace st := hid st
           clear C so' sb)
        | refine wli_load 52 _ rfl rfl b5 0 rfl s'.cells sv.out.range s'.agg ?_
        | ((try refine ⟨hdd _, ?_⟩); refine RoundIn.mono (roundIn_in lp2 hR) ?_; clear hR; rintro e X2 (⟨rfl, hx1⟩ | ⟨rfl, hx1⟩)))
      · exact ⟨endT.out _ _ st.out hx1.out.2, hx1.out.1, endI.out _ _ st.out hx1.out.2⟩
      · exact ⟨endT.out _ _ st.out hx1.out.2, rfl, hx1.out.1⟩
  case done =>
    rintro D X ⟨a1, a2, a3, a4⟩ hD hK
    gi_wp2
    have hb := below_putObj X D (.deferred none) hD
    refine ⟨by simp, .inl ⟨_, _, rfl, run_takeDeferred hK, ?_⟩⟩
    exact ⟨_, results_none rfl _ _ _, ⟨_, rfl⟩, .inl (hJs _ _ _ a1 (hb.mono (by omega)))⟩
  case stop =>
    rintro D c' X ⟨rfl, a1⟩ hD hK
    gi_wp2
    have hb := below_putObj X D (.deferred none) hD
    refine ⟨by simp, .inl ⟨_, _, rfl, run_takeDeferred hK, ?_⟩⟩
    exact ⟨_, results_none rfl _ _ _, ⟨_, rfl⟩, .inr (hJxs () _ _ a1 (hb.mono (by omega)))⟩
end Go.Proofs.Ytfdfeiempeciiaa
