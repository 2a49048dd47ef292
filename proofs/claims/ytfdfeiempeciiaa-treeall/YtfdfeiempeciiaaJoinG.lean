/- The contract of Calls: the names of the functions that a row calls. -/
import Derived.Test.YtfdfeiempeciiaaJoinE
import Derived.Test.YtfdfeiempeciiaaJoinC
import Derived.Test.YtfdfeiempeciiaaWalk
import Derived.Test.YtfdfeiempeciiaaAlive
import Derived.Test.YtfdfeiempeciiaaMake1
import Derived.Test.YtfdfeiempeciiaaJoinF
namespace Go.Proofs.Ytfdfeiempeciiaa
open Go.ChangeShapes Go.WideShapes Go.ChangeAt Go.RowKit Go.Shelf
set_option linter.unusedVariables false
attribute [local go_sem] Oper.semAt_some

def callsOf (xs : List (Int × St)) : List ByteArray := xs.flatMap (fun x => if x.2.op == 11 then [x.2.nm] else [])
theorem callsOf_step (xs : List (Int × St)) (k : Nat) (x : Int × St) (h : xs[k]? = some x) : callsOf (xs.take (k + 1)) = callsOf (xs.take k) ++ (if x.2.op == 11 then [x.2.nm] else []) := take_flat _ xs k x h
theorem callsOf_len (xs : List (Int × St)) : (callsOf xs).length ≤ xs.length := by
  induction xs with
  | nil => simp [callsOf]
  | cons a xs ih =>
    have h : (if a.2.op == 11 then [a.2.nm] else []).length ≤ 1 := by split <;> simp
    simp only [callsOf, List.flatMap_cons, List.length_append, List.length_cons] at ih ⊢
    omega

/-- append of a row, inside a fence. -/
theorem wli_append_row {F : Fence} {n0 : Nat} {w : World} {ops : Array Oper} {rest : List Oper} {o : Oper} {a : Act} {Q : Exit → Act → World → Prop} (hgd : o.guard = none) (s x : Operand) (t : TypeId)
    (ho : o.op = .call { callee := .builtin .append, args := #[s, x], argTypes := #[t, t] })
    (base : Nat) (e : TypeId) (z : Value) (size bytes : Nat) (ht : Try.prog.underlying t = some (.slice e)) (hinf : (Try.prog.info? e).map (fun i => (i.zero, i.size, i.bytes)) = some (some z, size, bytes)) (hzs : z.cells.size = size) (hsz : 0 < size)
    (v : Value) (hs : a.eval s = v) (n : Nat) (xs : List Value) (hown : w.ownsRow base e size v n xs) (u : Value) (hx : a.eval x = u) (G : Nat → Prop) (m : Nat) (news : List Value) (hu : RowAt w G size u m news) (h1 : ∀ x ∈ news, x.oneCell' = true)
    (h63 : n + m ≤ 2000000) (hbytes : bytes ≤ 1000) (hbase : base ≤ w.heap.size)
    (h : ∀ v' w', w'.ownsRow base e size v' (n + m) (xs ++ news) → w.grownBy w' v.ownBlock → (v'.ownBlock = v.ownBlock ∨ v'.ownBlock = some w.heap.size) → wpListIn F n0 Try.prog ops Q rest (a.put o.dst v') w') : wpListIn F n0 Try.prog ops Q (o :: rest) a w := by
  refine wpListIn_plain hgd fun K hK' => ?_
  obtain ⟨i, hi, z0, z1, z2⟩ := info_parts hinf
  obtain ⟨v', w', hr, h2, h3, h4⟩ := run_append_row w t o.type base e i z size bytes ht hi z0 z1 z2 hzs hsz v n xs hown G u m news hu h1 h63 hbytes hbase
  unfold Oper.wpIn
  refine ⟨?_, ?_⟩
  · simp [Oper.about, ho, resolve, Target.leads, Sem.run_pure]
  · rw [Oper.semAt_plain F _ _ (by rw [ho]; intro c hc'; cases hc')]
    simp [execOp, ho, resolve, invoke, builtin, hs, hx, hr, Result.andThen]
    exact hK' _ _ (h v' w' h2 h3 h4)
end Go.Proofs.Ytfdfeiempeciiaa

/- A range over a function that touches nothing itself. -/
namespace Go.Proofs.Ytfdfeiempeciiaa
open Go.ChangeShapes Go.WideShapes Go.ChangeAt Go.RowKit
set_option linter.unusedVariables false
attribute [local go_sem] Oper.semAt_some

/-- A function that hands over N things, each of which fits, or is stopped, and touches nothing itself. -/
def SeqW (F : Fence) (n g : Nat) (lb : Array Value) (N : Nat) (T : Nat → Prop) (Fit : Nat → Array Value → World → Prop) (w : World) : Prop :=
  ∀ (l : Nat) (J : Nat → World → Prop) (Jx : World → Prop) (W : World), Below w.heap.size w W → w.heap.size ≤ l → l < W.heap.size →
    (∀ m, Rounds F m l N T Fit J Jx) → J 0 W →
    CallsIn F n Try.prog g (#[.func (.yield l) #[] #[]] ++ lb) W fun e W' => (∃ v, e = .returned v) ∧ (J N W' ∨ Jx W')

theorem wpIn_range3 {F : Fence} {n : Nat} {g : Operand} {ps : Array Tmp} {assign body : Code} {Q : Exit → Act → World → Prop} {a : Act} {w : World}
    (hro : F.round = none) (hd : F.depth = none) {gf : Nat} {lb : Array Value} (hg : a.eval g = .func (.func gf) #[] lb) (hFg : F.fn gf) (eg : ∀ args w, (callFunc gf args).run Try.prog w = .ok (.enter gf args) w)
    {N : Nat} {T : Nat → Prop} {Fit : Nat → Array Value → World → Prop} (hseq : ∀ n, SeqW F n gf lb N T Fit w) (hT : ¬ T w.heap.size ∧ ¬ T (w.heap.size + 1)) (hps : ∀ k args W, Fit k args W → args.size = ps.size)
    (I : Nat → World → Prop) (Ix : Code → World → Prop) (hI : ∀ k W W', w.heap.size + 2 ≤ W.heap.size → I k W → Touch (fun b => b = w.heap.size ∨ b = w.heap.size + 1) W W' → I k W') (hIx : ∀ k W W', w.heap.size + 2 ≤ W.heap.size → Ix k W → Touch (fun b => b = w.heap.size ∨ b = w.heap.size + 1) W W' → Ix k W') (h0 : ∀ W, Below w.heap.size w W → W.heap.size = w.heap.size + 2 → I 0 W) (A : Nat → Act → World → Prop)
    (hA : ∀ k a' W W', A k a' W → (∀ b, b ≠ w.heap.size + 1 → W'.heap[b]? = W.heap[b]?) → W'.heap.size = W.heap.size → A k a' W')
    (hassign : ∀ (l k : Nat) (args : Array Value) (W : World) (K : Act → World → Prop), Fit k args W → w.heap.size + 2 ≤ W.heap.size → (∀ a' W', Below W.heap.size W W' → A k a' W' → K a' W') →
      assign.wpIn (F.inRound l) n Try.prog (Exit.then K (fun _ _ _ => False)) { tmps := (ps.zip args).foldl (fun t (p, v) => t.setIfInBounds p v) a.tmps, defers := [] } W)
    (hbody : ∀ (l k : Nat) (a' : Act) (W : World), I k W → k < N → A k a' W → w.heap.size + 2 ≤ W.heap.size → body.wpIn (F.inRound l) n Try.prog (endPost T I Ix k W) a' W)
    (hdone : ∀ (D : Nat) (W : World), I N W → D = w.heap.size → W.heap[D]? = some (.deferred (some [])) → Q .normal { a with defers := { target := .collected D, args := #[] } :: a.defers } W)
    (hstop : ∀ (D : Nat) (c : Code) (W : World), Ix c W → D = w.heap.size → W.heap[D]? = some (.deferred (some [])) → c.wpIn F n Try.prog Q { a with defers := { target := .collected D, args := #[] } :: a.defers } W) :
    (Code.rangeFunc g ps assign body).wpIn F n Try.prog Q a w := by
  refine wpIn_rangeFunc fun fn hfn => ?_
  rw [hro]
  have hdd : F.depth.isSome = true → 1 ≤ n := fun h => by rw [hd] at h; cases h
  generalize hR : (fun (st : LoopState) (pe : Option Code) => ({ state := st, pending := pe, fn, tmps := a.tmps, params := ps, assign, body, defers := w.heap.size } : Loop)) = R
  generalize hW : (w.alloc (.deferred (some []))).alloc (.loop (R .ready none)) = W1
  have b1 : Below w.heap.size w W1 := by rw [← hW]; exact below_two _ _ _
  have s1 : W1.heap.size = w.heap.size + 2 := by rw [← hW]; simp
  have q1 : W1.heap[w.heap.size + 1]? = some (.loop (R .ready none)) := by
    rw [← hW]
    have := World.alloc_heap_new (w.alloc (.deferred (some []))) (.loop (R .ready none))
    rwa [World.size_alloc] at this
  have q2 : W1.heap[w.heap.size]? = some (.deferred (some [])) := by
    rw [← hW, Below.heap_alloc _ _ _ (by simp)]
    exact World.alloc_heap_new w _
  refine ⟨w.heap.size + 1, [{ target := .collected w.heap.size, args := #[] }], W1, { target := .fn (.func gf) lb, args := #[.func (.yield (w.heap.size + 1)) #[] #[]] }, W1, gf, #[.func (.yield (w.heap.size + 1)) #[] #[]] ++ lb, W1, ?_, ?_, ?_, ?_, hdd, ?_⟩
  · rw [← hW, ← hR]
    exact run_enterLoop_outer _ _ _ _ _
  · simp only [resolve, hg]
    simp [go_sem]
  · intro f' hf'
    simp [Target.leads] at hf'
    subst hf'
    exact hFg
  · simp [invoke, go_sem, eg]
  · refine (hseq (n - 1) (w.heap.size + 1) (fun k W => I k W ∧ w.heap.size + 2 ≤ W.heap.size ∧ W.heap[w.heap.size + 1]? = some (.loop (R .ready none)) ∧ W.heap[w.heap.size]? = some (.deferred (some [])))
      (fun W => ∃ c, Ix c W ∧ w.heap.size + 2 ≤ W.heap.size ∧ W.heap[w.heap.size + 1]? = some (.loop (R .done (some c))) ∧ W.heap[w.heap.size]? = some (.deferred (some []))) W1 b1 (by omega) (by omega) ?_ ⟨h0 _ b1 s1, by omega, q1, q2⟩).mono ?_
    · rintro m k args W ⟨x1, x2, x3, x4⟩ hk hf
      have hy := run_yield (P := Try.prog) (args := args) x3 (by rw [← hR]; exact hps k args W hf)
      rw [← hR] at hy
      refine ⟨fn, _, assign, body, hy, rounds_any hd (roundIn_of_wpIn hfn (hassign (w.heap.size + 1) k args W _ hf x2 fun a' W' hb hA' => ?_))⟩
      have z1 := hb.size
      have y1 : W'.heap[w.heap.size + 1]? = some (.loop (R .ready none)) := (hb.block _ (by omega)).trans x3
      have y2 : W'.heap[w.heap.size]? = some (.deferred (some [])) := (hb.block _ (by omega)).trans x4
      have r1 := run_beginRound (P := Try.prog) y1 (by rw [← hR])
      have e1 : ({ R .ready none with state := .busy } : Loop) = R .busy none := by rw [← hR]
      rw [e1] at r1
      refine ⟨_, r1, ?_⟩
      generalize hW2 : W'.putObj (w.heap.size + 1) (.loop (R .busy none)) = W2
      have z2 : W2.heap.size = W'.heap.size := by rw [← hW2]; simp [World.putObj]
      have u1 : W2.heap[w.heap.size + 1]? = some (.loop (R .busy none)) := by rw [← hW2]; exact World.putObj_heap_same (by omega)
      have u2 : W2.heap[w.heap.size]? = some (.deferred (some [])) := by rw [← hW2]; exact (World.putObj_heap_other (by omega)).trans y2
      have t12 : Touch (fun b => T b ∨ b = w.heap.size + 1) W W2 := (Touch.of_below hb).trans (by rw [← hW2]; exact Touch.putObj _ _ _ (.inr rfl))
      have b12 : Touch (fun b => b = w.heap.size ∨ b = w.heap.size + 1) W W2 := (Touch.of_below hb).trans (by rw [← hW2]; exact Touch.putObj _ _ _ (.inr rfl))
      have a2 : A k a' W2 := hA k a' W' W2 hA' (fun b hb' => by rw [← hW2]; exact World.putObj_heap_other hb') z2
      refine wpIn_mono (hbody (w.heap.size + 1) k a' W2 (hI _ _ _ x2 x1 b12) hk a2 (by omega)) ?_
      have fin : ∀ (jump : Option Code) (W3 : World), Touch T W2 W3 → ∃ W4, (Instr.endRound (w.heap.size + 1) jump).run Try.prog W3 = .ok (.bool jump.isNone) W4 ∧ (w.heap.size + 2 ≤ W3.heap.size ∧ Touch (fun b => b = w.heap.size ∨ b = w.heap.size + 1) W3 W4) ∧ w.heap.size + 2 ≤ W4.heap.size ∧
          W4.heap[w.heap.size + 1]? = some (.loop (R (if jump.isNone then .ready else .done) jump)) ∧ W4.heap[w.heap.size]? = some (.deferred (some [])) ∧ Touch (fun b => T b ∨ b = w.heap.size + 1) W W4 := fun jump W3 t3 => by
        have v1 : W3.heap[w.heap.size + 1]? = some (.loop (R .busy none)) := (t3.block _ (by omega) hT.2).trans u1
        have v2 : W3.heap[w.heap.size]? = some (.deferred (some [])) := (t3.block _ (by omega) hT.1).trans u2
        have r2 := run_endRound (P := Try.prog) jump v1
        have e2 : ({ R .busy none with state := if jump.isNone then .ready else .done, pending := jump } : Loop) = R (if jump.isNone then .ready else .done) jump := by rw [← hR]
        rw [e2] at r2
        have z3 := t3.size
        exact ⟨_, r2, ⟨by omega, Touch.putObj _ _ _ (.inr rfl)⟩, by simp [World.putObj]; omega, World.putObj_heap_same (by omega), (World.putObj_heap_other (by omega)).trans v2,
          t12.trans ((t3.mono (fun _ _ h => .inl h)).trans (Touch.putObj _ _ _ (.inr rfl)))⟩
      rintro e a3 W3 hp
      cases e with
      | normal =>
        obtain ⟨W4, f1, f2, f3, f4, f5, f6⟩ := fin none W3 hp.1
        exact ⟨_, W4, f1, .inl ⟨rfl, ⟨hI _ _ _ f2.1 hp.2 f2.2, f3, f4, f5⟩, f6⟩⟩
      | ret =>
        obtain ⟨W4, f1, f2, f3, f4, f5, f6⟩ := fin (some .ret) W3 hp.1
        exact ⟨_, W4, f1, .inr ⟨rfl, ⟨.ret, hIx _ _ _ f2.1 hp.2 f2.2, f3, f4, f5⟩, f6⟩⟩
      | exit id =>
        obtain ⟨W4, f1, f2, f3, f4, f5, f6⟩ := fin (some (.exit id)) W3 hp.1
        exact ⟨_, W4, f1, .inr ⟨rfl, ⟨.exit id, hIx _ _ _ f2.1 hp.2 f2.2, f3, f4, f5⟩, f6⟩⟩
      | goto t =>
        obtain ⟨W4, f1, f2, f3, f4, f5, f6⟩ := fin (some (.goto t)) W3 hp.1
        exact ⟨_, W4, f1, .inr ⟨rfl, ⟨.goto t, hIx _ _ _ f2.1 hp.2 f2.2, f3, f4, f5⟩, f6⟩⟩
      | panic ch => exact hp.elim
      | outgrown => exact hp.elim
    · rintro e W ⟨⟨v, rfl⟩, ⟨x1, x2, x3, x4⟩ | ⟨c, x1, x2, x3, x4⟩⟩
      · have := run_endLoop (P := Try.prog) x3 (by rw [← hR]; simp)
        have e : (R .ready none).pending = none := by rw [← hR]
        rw [e] at this
        exact ⟨none, _, this, hdone w.heap.size _ (hI _ _ _ x2 x1 (Touch.putObj W (w.heap.size + 1) _ (.inr rfl))) rfl ((World.putObj_heap_other (by omega)).trans x4)⟩
      · have := run_endLoop (P := Try.prog) x3 (by rw [← hR]; simp)
        have e : (R .done (some c)).pending = some c := by rw [← hR]
        rw [e] at this
        exact ⟨some c, _, this, hstop w.heap.size c _ (hIx _ _ _ x2 x1 (Touch.putObj W (w.heap.size + 1) _ (.inr rfl))) rfl ((World.putObj_heap_other (by omega)).trans x4)⟩
set_option maxRecDepth 100000 in
set_option maxHeartbeats 1000000 in
/-- The function that each hands back. -/
theorem each1_seqW (F : Fence) (hd : F.depth = none) (h50 : F.fn 50) (h51 : F.fn 51) (hro : F.round = none) (G : Nat → Prop) (T : Nat → Prop) (hG : ∀ b, G b → ¬ T b) (l : List St) (v : Value) (Bk : Nat) (w : World) (hB : w.cell? ⟨Bk, 0, none⟩ = some v) (hl : stsOk w G v l) (n : Nat) :
    SeqW F n 50 #[.pointer (some ⟨Bk, 0, none⟩)] (flatL 0 l).length T (FitAt (flatL 0 l)) w := by
  intro lp J Jx W hW hl1 hl2 hY hJ0
  have hdd : ∀ k : Nat, (F.depth.isSome = true → 1 ≤ k) := fun k h => by rw [hd] at h; cases h
  have C := walk_any F hd h51 hro (fun b => G b ∧ b < w.heap.size) T lp (fun b hb h => h.elim (hG b hb.1) (fun e => by have := hb.2; omega)) (flatL 0 l) J Jx hY l (n - 1) 0 0 v W ((hl.mono (fun g h1 h2 => ⟨h1, h2⟩)).kept hW) hJ0 (From.all _)
  have hc : W.cell? ⟨Bk, 0, none⟩ = some v := (hW.cell (p := ⟨Bk, 0, none⟩) (World.block_lt_of_cell? w _ hB)).trans hB
  obtain ⟨pv, cv, rfl⟩ := hl.1.form
  clear hB hl hY hJ0 hW
  refine callsIn_of_wp Try.func50 rfl h50 ?_ hro
  simp only [Try.ntmps50, List.size_toArray, List.length_cons, List.length_nil, Nat.reduceAdd, Nat.reduceSub, Array.replicate_succ, Array.replicate_zero, List.push_toArray, List.append_toArray, List.nil_append, List.cons_append]
  gi_wp2_with ((try refine ⟨hdd _, ?_⟩); gi_at_call 51; refine C.mono ?_; clear C; rintro e W1 ⟨-, ⟨rfl, h1⟩ | ⟨rfl, h1⟩⟩)
  · go_end0
    exact ⟨⟨_, rfl⟩, .inl (by simpa using h1)⟩
  · go_end0
    exact ⟨⟨_, rfl⟩, .inr h1⟩

end Go.Proofs.Ytfdfeiempeciiaa

/- The contract of Calls: the names of the functions that a row calls. -/
namespace Go.Proofs.Ytfdfeiempeciiaa
open Go.ChangeShapes Go.WideShapes Go.ChangeAt Go.RowKit Go.Shelf
set_option linter.unusedVariables false
attribute [local go_sem] Oper.semAt_some

/-- While Calls goes over a row: the box of the names, and the names so far. -/
structure NamesAt (X : World) (b base : Nat) (L : List ByteArray) (v : Value) : Prop where
  box : VarAt X b [v] 33
  own : X.ownsRow base 9 1 v L.length (L.flatMap strC)
theorem NamesAt.touch {X X' : World} {b base : Nat} {L : List ByteArray} {v : Value} {T : Nat → Prop} (h : NamesAt X b base L v) (t : Touch T X X') (h1 : ¬ T b) (h2 : ∀ g, base ≤ g → ¬ T g) : NamesAt X' b base L v :=
  ⟨h.box.touch t h1, own_keep h.own (fun g hg hl => t.block g hl (h2 g hg))⟩

theorem namesStep {V X W1 : World} {B : Nat} {old vnew : Value} {L : List ByteArray} {s : ByteArray} (hT : Touch (fun b => b = B ∨ B + 2 ≤ b) V X) (t1 : Touch (fun b => B + 4 ≤ b) X W1) (bx : VarAt W1 B [old] 33)
    (o1 : W1.ownsRow (B + 4) 9 1 vnew (L.length + 1) (L.flatMap strC ++ [.string s])) : Touch (fun b => b = B ∨ B + 4 ≤ b) X (W1.setCell ⟨B, 0, none⟩ vnew) ∧ Touch (fun b => b = B ∨ B + 2 ≤ b) V (W1.setCell ⟨B, 0, none⟩ vnew) ∧ ∃ vn, NamesAt (W1.setCell ⟨B, 0, none⟩ vnew) B (B + 4) (L ++ [s]) vn := by
  have t2 : Touch (fun b => b = B ∨ B + 4 ≤ b) X (W1.setCell ⟨B, 0, none⟩ vnew) := by
    refine (t1.mono (fun b _ h => .inr h)).trans ?_
    exact Touch.setCell W1 ⟨B, 0, none⟩ vnew (.inl rfl)
  refine ⟨t2, hT.trans (t2.mono (fun b _ h => by omega)), vnew, bx.set 0 vnew, ?_⟩
  have := ownsRow_setCell_below o1 (a := ⟨B, 0, none⟩) (by simp) vnew
  simpa [strC] using this
set_option maxRecDepth 100000 in
set_option maxHeartbeats 1000000 in
theorem calls_any (l : List St) (v : Value) (w : World) (G : Nat → Prop) (hl : stsOk w G v l) (hn : (flatL 0 l).length ≤ 1000000) :
    Calls Try.prog 19 #[v] w fun e w' => ∃ u, e = .returned u ∧ Txts w w' u (callsOf (flatL 0 l)) := by
  refine (callsIn_wide (n := 3)).1 ?_
  have C := fun W => each_any v (by obtain ⟨p, c, rfl⟩ := hl.1.form; exact ⟨_, _, _, rfl⟩) W
  have bV : Below w.heap.size w ((w.alloc (.cells #[.slice none 0 0] 33)).alloc (.cells #[v] 35)) := below_two _ _ _
  have hS := fun n => each1_seqW Fence.wide rfl trivial trivial rfl (fun b => G b ∧ b < w.heap.size) (fun b => b = w.heap.size ∨ w.heap.size + 4 ≤ b) (fun b hb h => by omega) l v (w.heap.size + 1) ((w.alloc (.cells #[.slice none 0 0] 33)).alloc (.cells #[v] 35)) (by
    have := (Boxed.new (w.alloc (.cells #[.slice none 0 0] 33)) 35 v).cell
    rw [World.size_alloc] at this
    exact this) ((hl.mono (fun g a b => ⟨a, b⟩)).kept bV) n
  have v3 : VarAt ((w.alloc (.cells #[.slice none 0 0] 33)).alloc (.cells #[v] 35)) w.heap.size [.slice none 0 0] 33 := (VarAt.new w [.slice none 0 0] 33).kept ((Below.refl _ _).alloc (Nat.le_refl _) _)
  have sV : ((w.alloc (.cells #[.slice none 0 0] 33)).alloc (.cells #[v] 35)).heap.size = w.heap.size + 2 := by simp only [World.size_alloc]
  have okl : ∀ x ∈ flatL 0 l, x.2.ok w G := flatL_ok 0 hl.2
  replace hS := hid hS
  obtain ⟨pv, cv, rfl⟩ := hl.1.form
  clear hl
  refine callsIn_of_wp_marks Try.func19 rfl trivial ?_ rfl
  simp only [Try.ntmps19, List.size_toArray, List.length_cons, List.length_nil, Nat.reduceAdd, Nat.reduceSub, Array.replicate_succ, Array.replicate_zero, List.push_toArray, List.append_toArray, List.nil_append, List.cons_append]
  gi_wp2_with (refine ⟨trivial, ?_⟩; gi_at_call 41; refine (callsIn_wide.2 (C _)).mono ?_; rintro e w' ⟨rfl, rfl⟩)
  generalize hV : (w.alloc (.cells #[.slice none 0 0] 33)).alloc (.cells #[.slice pv l.length cv] 35) = V at *
  clear C hV
  refine wpIn_range3 rfl rfl (gf := 50) (lb := #[.pointer (some ⟨w.heap.size + 1, 0, none⟩)]) rfl trivial (enters_of Try.func50 (by kernel_rfl) rfl) hS.out ⟨by omega, by omega⟩ (fun k args W h => by obtain ⟨x, _, rfl⟩ := h; rfl)
    (fun k X => Touch (fun b => b = w.heap.size ∨ w.heap.size + 2 ≤ b) V X ∧ ∃ vn, NamesAt X w.heap.size (w.heap.size + 4) (callsOf ((flatL 0 l).take k)) vn) (fun _ _ => False) ?hI (fun _ _ _ _ h _ => h) ?h0
    (fun k a' X => ∃ (x : Int × St) (b5 : Nat), (flatL 0 l)[k]? = some x ∧ w.heap.size + 4 ≤ b5 ∧ VarAt X b5 x.2.cells 52 ∧ a' = { tmps := #[.slice pv l.length cv, undef, .slice none 0 0, .pointer (some ⟨w.heap.size, 0, none⟩), undef, .pointer (some ⟨b5, 0, none⟩), .slice pv l.length cv, .func (.func 50) #[] #[.pointer (some ⟨w.heap.size + 1, 0, none⟩)], .int .i64 x.1, .agg x.2.cells.toArray, undef, undef, undef, undef, undef, undef, undef, undef, undef], defers := [] }) ?hA ?assign ?body ?done ?stop
  case hI =>
    rintro k X X' hz ⟨h1, vn, h2⟩ ht
    exact ⟨h1.trans (ht.mono (fun b _ h => by omega)), vn, h2.touch ht (by omega) (fun g hg => by omega)⟩
  case h0 =>
    intro X hb hz
    exact ⟨Touch.of_below hb, .slice none 0 0, v3.kept hb, ⟨by simp [callsOf], .inl ⟨rfl, by simp [callsOf]⟩⟩⟩
  case hA =>
    rintro k a' X X' ⟨x, b5, e1, e2, e3, e4⟩ hb hs
    exact ⟨x, b5, e1, e2, (hb b5 (by omega)).trans e3, e4⟩
  case assign =>
    rintro lp2 k args X K ⟨x, hx, rfl⟩ hsz hK
    have one := hid (okl x (List.mem_of_getElem? hx)).hd.one
    clear hS okl
    unfold St.val
    gi_wp2_with (refine wli_store_new 52 _ _ rfl rfl X 52 _ rfl X.heap.size rfl rfl x.2.cells rfl x.2.agg rfl one.out ?_)
    exact hK _ _ ((Below.refl _ _).alloc (Nat.le_refl _) _) ⟨x, X.heap.size, hx, by omega, VarAt.new X x.2.cells 52, rfl⟩
  case body =>
    rintro lp2 k a' X ⟨hT, vn, hN⟩ hk ⟨x, b5, hx, hb5, hV5, rfl⟩ hsz
    have cop := hV5.cell 0 (v := .int .i64 x.2.op) rfl
    have cnm := hV5.cell 1 (v := .string x.2.nm) rfl
    have st := hid (callsOf_step (flatL 0 l) k x hx)
    have ln := hid (callsOf_len ((flatL 0 l).take k))
    clear hS okl
    by_cases hop : (x.2.op == 11) = true
    · obtain ⟨pn, cn, rfl⟩ := own_slice hN.own
      have c3 := hN.box.cell 0 (v := .slice pn (callsOf ((flatL 0 l).take k)).length cn) rfl
      rw [if_pos hop] at st
      generalize callsOf ((flatL 0 l).take k) = L at *
      have nL : L.length + 1 ≤ 2000000 := by have := ln.out; simp at this; omega
      have hown : Hid ((X.alloc (.cells #[.string x.2.nm] 9)).ownsRow (w.heap.size + 4) 9 1 (.slice pn L.length cn) L.length (L.flatMap strC)) := hid (own_keep hN.own (fun g hg hl => Below.heap_alloc _ _ _ (by omega)))
      have hrow : Hid (RowAt (X.alloc (.cells #[.string x.2.nm] 9)) (fun _ => True) 1 (.slice (some ⟨X.heap.size, 0, none⟩) 1 1) 1 [.string x.2.nm]) := hid (RowAt.made X [.string x.2.nm] 9 (fun _ => True) trivial 1 rfl)
      have hbox := hid hN.box
      have hz : Hid (w.heap.size + 4 ≤ (X.alloc (.cells #[.string x.2.nm] 9)).heap.size) := hid (by simp only [World.size_alloc]; omega)
      replace hT := hid hT
      replace hV5 := hid hV5
      have hX : Hid (w.heap.size + 4 ≤ X.heap.size) := hid (by omega)
      clear hN ln v3 bV hx
      gi_wp2_with (refine wli_append_row rfl _ _ 33 rfl (w.heap.size + 4) 9 (.string { data := #[] }) 1 16 Try.underlying33 info9z rfl (by decide) (.slice pn L.length cn) rfl L.length (L.flatMap strC) hown.out (.slice (some ⟨X.heap.size, 0, none⟩) 1 1) rfl (fun _ => True) 1 [.string x.2.nm] hrow.out (by simp [Value.oneCell']) nL (by decide) hz.out ?_
                   intro v' W1 o1 gr hh
                   obtain ⟨p', c', rfl⟩ := own_slice o1
                   have t1 : Touch (fun b => w.heap.size + 4 ≤ b) X W1 := (Touch.of_below ((Below.refl _ _).alloc (Nat.le_refl _) _)).trans (Touch.of_grown gr (fun g hg => (own_lt hown.out hg).1))
                   have bx1 := hbox.out.touch t1 (by omega)
                   have c3' := bx1.cell 0 (v := .slice pn L.length cn) rfl
                   have d3' := bx1.frozen 0
                   replace o1 := hid o1
                   replace t1 := hid t1
                   replace bx1 := hid bx1
                   clear gr hh c3)
      have fin := namesStep (s := x.2.nm) hT.out t1.out bx1.out o1.out
      rw [← st.out] at fin
      exact fin
    · have hof : (x.2.op == 11) = false := by simpa using hop
      rw [if_neg hop, List.append_nil] at st
      replace hN := hid hN
      replace hT := hid hT
      replace hV5 := hid hV5
      clear ln v3 bV hx
      gi_wp2_with fail
      have fin : ∃ vn, NamesAt X w.heap.size (w.heap.size + 4) (callsOf ((flatL 0 l).take (k + 1))) vn := by
        rw [st.out]
        exact ⟨vn, hN.out⟩
      exact ⟨Touch.refl _ _, hT.out, fin⟩
  case done =>
    rintro D X ⟨h1, vn, hN⟩ hD hK
    rw [List.take_length] at hN
    obtain ⟨pn, cn, rfl⟩ := own_slice hN.own
    have c3 := hN.box.cell 0 (v := .slice pn (callsOf (flatL 0 l)).length cn) rfl
    have own := hid hN.own
    have hb : Below w.heap.size w (X.putObj D (.deferred none)) := (bV.trans (h1.below (fun i hi => ⟨by omega, by omega⟩))).trans (below_putObj X D (.deferred none) (by omega))
    have ow2 : Hid ((X.putObj D (.deferred none)).ownsRow w.heap.size 9 1 (.slice pn (callsOf (flatL 0 l)).length cn) (callsOf (flatL 0 l)).length ((callsOf (flatL 0 l)).flatMap strC)) := hid (own_low (own_keep hN.own (fun g hg hl => World.putObj_heap_other (by omega))) (by omega))
    replace hb := hid hb
    clear hS okl hN v3 bV h1 own
    generalize hL : callsOf (flatL 0 l) = L at *
    replace hL := hid hL
    gi_wp2_with fail
    refine ⟨by simp, .inl ⟨_, _, rfl, run_takeDeferred hK, ?_⟩⟩
    rw [hL.out]
    refine ⟨.slice pn L.length cn, ?_, _, rfl, ow2.out, hb.out⟩
    exact results_tmp (fn := Try.f19) (t := 2) rfl _ _ _
  case stop =>
    rintro D c X h
    exact h.elim
end Go.Proofs.Ytfdfeiempeciiaa

/- For TreeAll: a row of rows that grows; how many statements all rows have. -/
namespace Go.Proofs.Ytfdfeiempeciiaa
open Go.ChangeShapes Go.WideShapes Go.ChangeAt Go.RowKit
set_option linter.unusedVariables false

theorem info35z : (Try.prog.info? 35).map (fun i => (i.zero, i.size, i.bytes)) = some (some (.slice none 0 0), 1, 24) := by kernel_rfl
/-- A row of rows of the call's own. -/
structure RowsV (W w' : World) (v : Value) (L : List Value) : Prop where
  own : w'.ownsRow W.heap.size 35 1 v L.length L
  bel : Below W.heap.size W w'
theorem RowsV.start (W : World) : RowsV W W (.slice none 0 0) [] := ⟨⟨by simp, .inl ⟨rfl, rfl⟩⟩, Below.refl _ _⟩
theorem RowsV.kept {W w w' : World} {v : Value} {L : List Value} (h : RowsV W w v L) (b : Below w.heap.size w w') : RowsV W w' v L := ⟨own_keep h.own (fun g _ hl => b.block g hl), Below.over h.bel b⟩
theorem RowsV.form {W w : World} {v : Value} {L : List Value} (h : RowsV W w v L) : ∃ p c, v = .slice p L.length c := own_slice h.own
theorem RowsV.form3 {W w : World} {v : Value} {L : List Value} (h : RowsV W w v L) : ∃ p n c, v = .slice p n c := by
  obtain ⟨p, c, e⟩ := h.form
  exact ⟨p, _, c, e⟩
/-- All rows of statements of a program. -/
def rowsOf (p : Pg) : List (Value × List St) := p.funs.map (fun f => (f.bv, f.body)) ++ p.threads.map (fun t => (t.bv, t.body))
def flats (R : List (Value × List St)) : List (Int × St) := R.flatMap (fun r => flatL 0 r.2)
theorem flats_rows (p : Pg) : flats (rowsOf p) = funsL p.funs ++ thsL p.threads := by
  simp [flats, rowsOf, funsL, thsL, List.flatMap_append, List.flatMap_map]
theorem rows_vals (p : Pg) : (rowsOf p).map (·.1) = p.funs.map Fn.bv ++ p.threads.map Th.bv := by
  simp [rowsOf, Function.comp_def]
theorem flats_step (R : List (Value × List St)) (k : Nat) (r : Value × List St) (h : R[k]? = some r) : flats (R.take (k + 1)) = flats (R.take k) ++ flatL 0 r.2 := by
  rw [List.take_add_one, h]
  simp [flats]
theorem cntF_len (xs : List (Int × St)) : ∀ n : Int, 0 ≤ n → n + xs.length ≤ 1000000 → cntF n xs = n + xs.length := by
  induction xs with
  | nil => intro n _ _; simp [cntF]
  | cons a xs ih =>
    intro n h0 h1
    have e : cntF n (a :: xs) = cntF (wrap64 (n + 1)) xs := rfl
    simp only [List.length_cons] at h1
    rw [e, show wrap64 (n + 1) = n + 1 by unfold wrap64; omega, ih (n + 1) (by omega) (by omega)]
    simp only [List.length_cons]
    omega
theorem sum_len (p : Pg) : (flats (rowsOf p)).length = (p.funs.map (fun f => cnt f.body)).sum + (p.threads.map (fun f => cnt f.body)).sum := by
  simp [flats, rowsOf, List.length_flatMap, cnt, Function.comp_def]
theorem flats_take (R : List (Value × List St)) (k : Nat) : (flats (R.take k)).length ≤ (flats R).length := by
  have : flats R = flats (R.take k) ++ flats (R.drop k) := by
    unfold flats
    rw [← List.flatMap_append, List.take_append_drop]
  rw [this]
  simp
/-- What is known of a row of a program. -/
structure RowGood (W : World) (r : Value × List St) : Prop where
  sts : stsOk W (fun _ => True) r.1 r.2
  txt : (rowT r.2).length ≤ 2000000
  few : cnt r.2 ≤ 60
theorem rows_good {w w' W : World} {N : List Int} {p : Pg} (h : MakeOut w w' N p) (hp : p.ok W (fun _ => True)) : ∀ r ∈ rowsOf p, RowGood W r := fun r hr => by
  have h1 := h.texts
  simp only [rowsOf, List.mem_append, List.mem_map] at hr
  rcases hr with ⟨f, hf, rfl⟩ | ⟨t, ht, rfl⟩
  · have h2 := mem_flat_le Fn.texts p.funs f hf
    simp only [Pg.texts, List.length_append] at h1
    simp only [Fn.texts, List.length_cons, List.length_append] at h2
    exact ⟨(hp.2.2.1.2 f hf).2, by show (rowT f.body).length ≤ 2000000; omega, h.cnt_fn f hf⟩
  · exact ⟨hp.2.2.2.2 t ht, h.rows t ht, h.cnt_th t ht⟩
/-- What stands at a spot of it. -/
theorem RowsV.at {W w : World} {v : Value} {L : List Value} (h : RowsV W w v L) {k : Nat} {y : Value} (hk : L[k]? = some y) : ∃ g cap, v = .slice (some ⟨g, 0, none⟩) L.length cap ∧ w.cell? ⟨g, k, none⟩ = some y := by
  have hlt : k < L.length := (List.getElem?_eq_some_iff.1 hk).1
  rcases h.own.2 with ⟨_, h2⟩ | ⟨g, cap, cur, hv, hb, hg, hn, hc, hs, ht⟩
  · omega
  · refine ⟨g, cap, hv, ?_⟩
    rw [cell_of_row w g k cur _ _ hg]
    rw [← ht, List.getElem?_take] at hk
    split at hk
    · simpa using hk
    · simp at hk
theorem funsM_len (N : List Int) (k : Nat) : ∀ i l, (funsM N k i l).1.1.length = k := by
  induction k with
  | zero => intro i l; rfl
  | succ k ih => intro i l; simp only [funsM, List.length_cons, ih]
theorem thsM_len (N : List Int) (k : Nat) : ∀ i l, (thsM N k i l).1.1.length = k := by
  induction k with
  | zero => intro i l; rfl
  | succ k ih => intro i l; simp only [thsM, List.length_cons, ih]
theorem MakeOut.few {w w' : World} {N : List Int} {p : Pg} (h : MakeOut w w' N p) : p.funs.length ≤ 2 ∧ p.threads.length ≤ 3 := by
  have e1 : p.funs.length = (makeM N).funs.length := by rw [← h.bare]; simp [Pg.bare]
  have e2 : p.threads.length = (makeM N).threads.length := by rw [← h.bare]; simp [Pg.bare]
  have k2 := pk_lt N 3 (globsN N).2 (by omega)
  have k3 := pk_lt N 4 (funsN N).1.2 (by omega)
  rw [e1, e2]
  simp only [makeM, funsN, thsN, funsM_len, thsM_len]
  simp only [funsN] at k3
  omega
section
variable {ops : Array Oper} {rest : List Oper} {o : Oper} {a : Act} {Q : Exit → Act → World → Prop}
theorem wl_appV (hgd : o.guard = none) (s x : Operand) (ho : o.op = .call { callee := .builtin .append, args := #[s, x], argTypes := #[56, 56] }) (W w : World) (v : Value) (hs : a.eval s = v) (L : List Value) (hr : RowsV W w v L) (y : Value) (h1 : y.oneCell' = true)
    (b : Nat) (hb : b = w.heap.size) (hx : a.eval x = .slice (some ⟨b, 0, none⟩) 1 1) (hl : L.length ≤ 1000) (h : ∀ v' w', RowsV W w' v' (L ++ [y]) → wpList Try.prog ops Q rest (a.put o.dst v') w') : wpList Try.prog ops Q (o :: rest) a (w.alloc (.cells #[y] 35)) := by
  have ba : Below w.heap.size w (w.alloc (.cells #[y] 35)) := (Below.refl _ _).alloc (Nat.le_refl _) _
  have hr' := hr.kept ba
  rw [hb] at hx
  refine wl_append_row hgd s x 56 ho W.heap.size 35 (.slice none 0 0) 1 24 Try.underlying56 info35z rfl (by decide) v hs L.length L hr'.own _ hx (fun _ => True) 1 [y] (RowAt.made w [y] 35 (fun _ => True) trivial 1 rfl) (by simp [h1]) (by omega) (by decide) hr'.bel.size ?_
  intro v' w' o1 gr _
  refine h v' w' ⟨by simpa using o1, ?_⟩
  exact hr'.bel.trans ⟨gr.os, gr.tape, gr.output, gr.size, fun i hi => gr.block i (by have := hr'.bel.size; omega) (fun e => by have := (own_lt hr'.own e.symm).1; omega)⟩
end
end Go.Proofs.Ytfdfeiempeciiaa

/- The walk of TreeAll. -/
namespace Go.Proofs.Ytfdfeiempeciiaa
open Go.ChangeShapes Go.WideShapes Go.ChangeAt Go.RowKit
set_option linter.unusedVariables false

set_option maxRecDepth 100000 in
set_option maxHeartbeats 1000000 in
theorem all_law (v0 : Value) (N : List Int) (most : Int) (w : World) (hI : IsInts w w.heap.size v0 N) (hm : I64 most) :
    Calls Try.prog 4 #[v0, .int .i64 most] w fun e w' => e = .returned (.bool true) ∧ Below w.heap.size w w' := by
  obtain ⟨av, capv, hv, hi⟩ := hI
  have hI : Hid (IsInts w w.heap.size v0 N) := hid ⟨av, capv, hv, hi⟩
  subst hv
  clear hi
  go_enter Try.func4, Try.ntmps4
  go_wp2_with fail
  refine (alive_any _).mono ?_
  rintro e wa ⟨rfl, hba⟩
  replace hba := hid hba
  by_cases hf1 : N.length ≤ 400
  · have g1 : decide ((N.length : Int) > 400) = false := by simp; omega
    have hIa := hid ((hI.out.keep (fun b hb => hba.out.block b hb)).up hba.out.size)
    go_wp2_with fail
    refine (make_any _ _ N hIa.out hf1).mono ?_
    rintro e wm ⟨p, rfl, mp⟩
    replace mp := hid mp
    unfold Pg.val
    have o7 := hid (Pg.ones p mp.out.ok)
    have agp : AggT 29 p.cells.length := agg29
    go_upto_region 8 with (refine wl_store_new 29 _ _ rfl rfl wm 29 _ rfl wm.heap.size rfl rfl p.cells rfl agp rfl o7.out ?_)
    have bW : Below wm.heap.size wm (wm.alloc (.cells p.cells.toArray 29)) := (Below.refl _ _).alloc (Nat.le_refl _) _
    have V5 := hid (VarAt.new wm p.cells 29)
    have pk : Hid (p.ok (wm.alloc (.cells p.cells.toArray 29)) (fun _ => True)) := hid ((mp.out.ok.mono (fun _ _ _ => trivial)).kept bW)
    have B8 : Hid (Below w.heap.size w (wm.alloc (.cells p.cells.toArray 29))) := hid (Below.over hba.out (Below.over mp.out.bel bW))
    have rt := hid mp.out.texts
    have mpl := mp.out.few
    have gd := hid (rows_good mp.out pk.out)
    have cs := hid mp.out.cnts
    generalize hWW : wm.alloc (.cells p.cells.toArray 29) = W at *
    obtain ⟨pf, cf, epf⟩ := pk.out.2.2.1.1.form
    obtain ⟨pt, ct, ept⟩ := pk.out.2.2.2.1.form
    have k5 : W.cell? ⟨wm.heap.size, 2, none⟩ = some (.slice pf p.funs.length cf) := by rw [← epf]; exact V5.out.cell 2 rfl
    have fl : Hid (p.funs.length ≤ 2 ∧ p.threads.length ≤ 3) := hid mpl
    have n47 := pk.out.2.2.1.1.1.2
    have n48 := pk.out.2.2.2.1.1.2
    have fns := pk.out.2.2.1
    rw [epf] at fns
    replace fns := hid fns
    have ths := pk.out.2.2.2
    rw [ept] at ths
    replace ths := hid ths
    replace epf := hid epf
    replace ept := hid ept
    clear hWW mp hIa hI hba o7 agp bW
    go_wp2_with fail
    go_loopw [36, 8] (fun vi vr wr => ∃ (k : Nat) (pr : Option Addr) (nr cr : Nat), k ≤ p.funs.length ∧ vi = .int .i64 k ∧ vr = .slice pr nr cr ∧ Hid (RowsV W wr (.slice pr nr cr) ((p.funs.take k).map Fn.bv))) (fun vi _ _ => p.funs.length - (intOf vi).toNat)
    case atStart => exact ⟨0, none, 0, 0, Nat.zero_le _, rfl, rfl, hid (RowsV.start W)⟩
    case round =>
      obtain ⟨k, pr, nr, cr, hk, rfl, rfl, hat⟩ := hrel
      by_cases hlt : k < p.funs.length
      · obtain ⟨t, ht⟩ : ∃ t, p.funs[k]? = some t := ⟨_, List.getElem?_eq_getElem hlt⟩
        have htm := List.mem_of_getElem? ht
        obtain ⟨g, cap, eg, hF, hgl, hrg⟩ := RowAt.elem Fn.len fns.out.1 ht
        obtain ⟨rfl, -, rfl⟩ := Value.slice.inj eg
        clear eg
        have tko := hid (Fn.ok.keep (fns.out.2 t htm) (fun g _ hl => hat.out.bel.block g hl))
        have rg := hid (rangeAt_kept hrg hat.out.bel)
        have hk0 : (0 : Int) ≤ (k : Int) := Int.natCast_nonneg _
        have hk1 : (k : Int) < (p.funs.length : Int) := by omega
        have one := hid (Fn.one' tko.out)
        obtain ⟨pb, cb, eb⟩ := tko.out.2.1.form
        have agt : AggT 58 t.cells.length := agg58
        have ba : Below wr.heap.size wr (wr.alloc (.cells t.cells.toArray 58)) := (Below.refl _ _).alloc (Nat.le_refl _) _
        have c2 : (wr.alloc (.cells t.cells.toArray 58)).cell? ⟨wr.heap.size, 2, none⟩ = some (.slice pb t.body.length cb) := by rw [← eb]; exact (VarAt.new wr t.cells 58).cell 2 rfl
        have hat' := hid (hat.out.kept ba)
        have ll : Hid (((p.funs.take k).map Fn.bv).length ≤ 1000) := hid (by simp; have := fl.out; omega)
        have st : Hid ((p.funs.take (k + 1)).map Fn.bv = (p.funs.take k).map Fn.bv ++ [.slice pb t.body.length cb]) := hid (by rw [List.take_add_one, ht]; simp [eb])
        replace eb := hid eb
        clear hrg tko ba k5
        go_wp2_with (first
          | refine wl_load 58 _ rfl rfl g (k * 5) rfl t.cells rg.out agt ?_
          | refine wl_store_new 58 _ _ rfl rfl wr 58 _ rfl wr.heap.size rfl rfl t.cells rfl agt rfl one.out ?_
          | (refine wl_appV rfl _ _ rfl W (wr.alloc (.cells t.cells.toArray 58)) (.slice pr nr cr) rfl _ hat'.out (.slice pb t.body.length cb) rfl (wr.heap.size + 1) (World.size_alloc ..).symm rfl ll.out ?_
             intro v' w' h'
             obtain ⟨p', n', c', rfl⟩ := h'.form3
             rw [← st.out] at h'
             replace h' := hid h'))
        go_roundw
        case rel => exact ⟨k + 1, _, _, _, by omega, by go_num, rfl, h'⟩
        case measure => simp [intOf]; omega
      · have hkl : p.funs.take k = p.funs := List.take_of_length_le (by omega)
        rw [hkl] at hat
        have k5' : wr.cell? ⟨wm.heap.size, 3, none⟩ = some (.slice pt p.threads.length ct) := by rw [← ept.out]; exact (V5.out.kept hat.out.bel).cell 3 rfl
        clear hkl k5
        go_wp2_with fail
        rename World => wf
        go_loopw [49, 8] (fun vi vr wr => ∃ (k : Nat) (pr : Option Addr) (nr cr : Nat), k ≤ p.threads.length ∧ vi = .int .i64 k ∧ vr = .slice pr nr cr ∧ Hid (RowsV W wr (.slice pr nr cr) (p.funs.map Fn.bv ++ (p.threads.take k).map Th.bv))) (fun vi _ _ => p.threads.length - (intOf vi).toNat)
        case atStart => exact ⟨0, _, _, _, Nat.zero_le _, rfl, rfl, by simpa using hat⟩
        case round =>
          clear hat hlt hk
          obtain ⟨k2, pr2, nr2, cr2, hk2, rfl, rfl, hat⟩ := hrel
          by_cases hlt : k2 < p.threads.length
          · obtain ⟨t, ht⟩ : ∃ t, p.threads[k2]? = some t := ⟨_, List.getElem?_eq_getElem hlt⟩
            have htm := List.mem_of_getElem? ht
            obtain ⟨g, cap, eg, hF, hgl, hrg⟩ := RowAt.elem Th.len ths.out.1 ht
            obtain ⟨rfl, -, rfl⟩ := Value.slice.inj eg
            clear eg
            have tko := hid (stsOk.keep (ths.out.2 t htm) (fun g _ hl => hat.out.bel.block g hl))
            have rg := hid (rangeAt_kept hrg hat.out.bel)
            have hk0 : (0 : Int) ≤ (k2 : Int) := Int.natCast_nonneg _
            have hk1 : (k2 : Int) < (p.threads.length : Int) := by omega
            have one := hid (Th.ok.one tko.out)
            obtain ⟨pb, cb, eb⟩ := tko.out.1.form
            have agt : AggT 37 t.cells.length := agg37
            have ba : Below wr.heap.size wr (wr.alloc (.cells t.cells.toArray 37)) := (Below.refl _ _).alloc (Nat.le_refl _) _
            have c2 : (wr.alloc (.cells t.cells.toArray 37)).cell? ⟨wr.heap.size, 0, none⟩ = some (.slice pb t.body.length cb) := by rw [← eb]; exact (VarAt.new wr t.cells 37).cell 0 rfl
            have hat' := hid (hat.out.kept ba)
            have ll : Hid ((p.funs.map Fn.bv ++ (p.threads.take k2).map Th.bv).length ≤ 1000) := hid (by simp; have := fl.out; omega)
            have st : Hid (p.funs.map Fn.bv ++ (p.threads.take (k2 + 1)).map Th.bv = (p.funs.map Fn.bv ++ (p.threads.take k2).map Th.bv) ++ [.slice pb t.body.length cb]) := hid (by rw [List.take_add_one, ht]; simp [eb])
            replace eb := hid eb
            clear hrg tko ba k5'
            go_wp2_with (first
              | refine wl_load 37 _ rfl rfl g (k2 * 3) rfl t.cells rg.out agt ?_
              | refine wl_store_new 37 _ _ rfl rfl wr 37 _ rfl wr.heap.size rfl rfl t.cells rfl agt rfl one.out ?_
              | (refine wl_appV rfl _ _ rfl W (wr.alloc (.cells t.cells.toArray 37)) (.slice pr2 nr2 cr2) rfl _ hat'.out (.slice pb t.body.length cb) rfl (wr.heap.size + 1) (World.size_alloc ..).symm rfl ll.out ?_
                 intro v' w' h'
                 obtain ⟨p', n', c', rfl⟩ := h'.form3
                 rw [← st.out] at h'
                 replace h' := hid h'))
            go_roundw
            case rel => exact ⟨k2 + 1, _, _, _, by omega, by go_num, rfl, h'⟩
            case measure => simp [intOf]; omega
          · have hkl : p.threads.take k2 = p.threads := List.take_of_length_le (by omega)
            rw [hkl, ← rows_vals] at hat
            have V5' := hid (V5.out.kept hat.out.bel)
            have gd' : Hid (∀ r ∈ rowsOf p, RowGood wr r) := hid (fun r hr => ⟨(gd.out r hr).sts.kept hat.out.bel, (gd.out r hr).txt, (gd.out r hr).few⟩)
            have pk' := hid (pk.out.keep (fun g _ hl => hat.out.bel.block g hl))
            have B9 := hid (Below.over B8.out hat.out.bel)
            have eL : Hid ((flats (rowsOf p)).length ≤ 60 ∧ flats (rowsOf p) = funsL p.funs ++ thsL p.threads) := hid ⟨by rw [sum_len]; exact cs.out, flats_rows p⟩
            have nR : Hid (nr2 = (rowsOf p).length) := hid (by obtain ⟨_, _, e⟩ := hat.out.form; obtain ⟨_, e, _⟩ := Value.slice.inj e; simpa using e)
            rename World => wq
            clear hkl gd pk B8 V5 fns ths epf ept k5'
            generalize hR : rowsOf p = R at *
            have n2 : nr2 ≤ 1000 := by have := nR.out; have := congrArg List.length hR; have := fl.out; simp [rowsOf] at *; omega
            go_wp2_with fail
            go_loopw [61, 6, 7] (fun vi v6 v7 wr => ∃ k : Nat, k ≤ R.length ∧ vi = .int .i64 k ∧ v6 = .int .i64 (flats (R.take k)).length ∧ v7 = .int .i64 (maxF (-1) (flats (R.take k))) ∧ Hid (Below wq.heap.size wq wr)) (fun vi _ _ _ => R.length - (intOf vi).toNat)
            case atStart => exact ⟨0, Nat.zero_le _, rfl, rfl, rfl, hid (Below.refl _ _)⟩
            case round =>
              obtain ⟨i, hi, rfl, rfl, rfl, hbe⟩ := hrel
              by_cases hil : i < R.length
              · obtain ⟨r, hr⟩ : ∃ r, R[i]? = some r := ⟨_, List.getElem?_eq_getElem hil⟩
                have hrm := List.mem_of_getElem? hr
                obtain ⟨g, cap, eg, hc⟩ := hat.out.at (k := i) (y := r.1) (by simp [hr])
                obtain ⟨rfl, -, rfl⟩ := Value.slice.inj eg
                have gr := gd'.out r hrm
                have hst := hid (gr.sts.kept hbe.out)
                have htx := hid gr.txt
                have hfw := hid gr.few
                obtain ⟨pb, cb, eb⟩ := hst.out.1.form
                have hcr : wr.cell? ⟨g, i, none⟩ = some (.slice pb r.2.length cb) := by rw [← eb]; exact (hbe.out.cell (World.block_lt_of_cell? wq _ hc)).trans hc
                have hi0 : (0 : Int) ≤ (i : Int) := Int.natCast_nonneg _
                have hi1 : (i : Int) < (nr2 : Int) := by have := nR.out; omega
                have fs := hid (flats_step R i r hr)
                have ft := hid (flats_take R (i + 1))
                rw [eb] at hst
                generalize r.2 = l at *
                generalize hA : flats (R.take i) = A at *
                have hn6 : Hid (cnt l ≤ 1000000) := hid (by have := hfw.out; omega)
                replace eb := hid eb
                replace hA := hid hA
                have G1 := hid (gone_any l (.slice pb l.length cb) most wr _ hst.out htx.out hn6.out hm)
                clear eg gr hc
                go_wp2_with fail
                refine G1.out.mono ?_
                rintro e w21 ⟨rfl, hb⟩
                replace hst := hid (hst.out.kept hb)
                replace hbe := hid (Below.over hbe.out hb)
                clear hb G1 hcr
                have G2 := hid (goneN l (.slice pb l.length cb) w21 _ hst.out htx.out (by have := hfw.out; omega))
                go_wp2_with fail
                refine G2.out.mono ?_
                rintro e w24 ⟨rfl, hb⟩
                replace hst := hid (hst.out.kept hb)
                replace hbe := hid (Below.over hbe.out hb)
                clear hb G2
                have G3 := hid (flat_any l (.slice pb l.length cb) 0 w24 _ hst.out hn6.out)
                go_wp2_with fail
                refine G3.out.mono ?_
                rintro e w27 ⟨p1, n1, c1, q1, m1, d1, rfl, two⟩
                have en1 : n1 = (flatL 0 l).length := by
                  obtain ⟨_, _, e⟩ := own_slice two.o1
                  obtain ⟨_, e, _⟩ := Value.slice.inj e
                  simpa using e
                replace hst := hid (hst.out.kept two.bel)
                replace hbe := hid (Below.over hbe.out two.bel)
                replace two := hid two
                clear G3
                have n60 : Hid (A.length + n1 ≤ 60) := hid (by have e1 := fs.out; have e2 := ft.out; have e3 := eL.out.1; rw [e1] at e2; simp at e2; omega)
                have wn : wrap64 ((A.length : Int) + (n1 : Int)) = ((A.length + n1 : Nat) : Int) := by have := n60.out; unfold wrap64; omega
                replace en1 := hid en1
                have n1s : n1 ≤ 60 := by have := n60.out; omega
                have hwn : Hid (wrap64 ((A.length : Int) + (n1 : Int)) = (A.length : Int) + (n1 : Int)) := hid (by have := n60.out; unfold wrap64; omega)
                have i1000 : i < 1000 := by have := nR.out; omega
                go_wp2_with fail
                clear rt mpl cs fl n47 n48 hk2 hlt hR n2 hr hrm hi0 hi1 g1 hf1
                generalize hm0 : maxF (-1) A = m0
                replace hm0 := hid hm0
                generalize hxs : flatL 0 l = xs at *
                replace hxs := hid hxs
                replace hil := hid hil
                replace hi := hid hi
                clear wn
                go_loopw [91, 7, 21] (fun vi v7 v21 wx => ∃ (j : Nat) (pc : Option Addr) (nc cc : Nat), j ≤ n1 ∧ vi = .int .i64 j ∧ v7 = .int .i64 (maxF m0 (xs.take j)) ∧ v21 = .slice pc nc cc ∧ Hid (Txts w27 wx (.slice pc nc cc) (callsOf (xs.take j)))) (fun vi _ _ _ => n1 - (intOf vi).toNat)
                case atStart => exact ⟨0, none, 0, 0, Nat.zero_le _, rfl, rfl, rfl, hid ⟨⟨by simp [callsOf], .inl ⟨rfl, by simp [callsOf]⟩⟩, Below.refl _ _⟩⟩
                case round =>
                  obtain ⟨j, pc, nc, cc, hj, rfl, rfl, rfl, htt⟩ := hrel
                  rename World => wx
                  by_cases hjl : j < n1
                  · obtain ⟨y, hy⟩ : ∃ y, xs[j]? = some y := ⟨_, List.getElem?_eq_getElem (by have := en1.out; omega)⟩
                    have r1 := RowAt.of_owns (F := fun _ => True) two.out.o1 (by have := en1.out; simp; omega) (fun _ _ => trivial)
                    have r2 := RowAt.of_owns (F := fun _ => True) two.out.o2 (by have := en1.out; simp; omega) (fun _ _ => trivial)
                    obtain ⟨ga, ca, ev1, _, _, hra⟩ := RowAt.elem St.len r1 (k := j) (x := y.2) (by simp [hy])
                    obtain ⟨gb, cb2, ev2, _, _, hrb⟩ := RowAt.elem (f := intC) (s := 1) (fun x => rfl) r2 (k := j) (x := y.1) (by simp [hy])
                    obtain ⟨rfl, -, rfl⟩ := Value.slice.inj ev1
                    obtain ⟨rfl, em1, rfl⟩ := Value.slice.inj ev2
                    simp only [List.length_map] at em1
                    have sok := hid (flatL_ok 0 hst.out.2 y (by rw [hxs.out]; exact List.mem_of_getElem? hy)).hd.one
                    have ba : Below (World.heap wx).size wx (World.alloc wx (.cells y.2.cells.toArray 52)) := (Below.refl _ _).alloc (Nat.le_refl _) _
                    have rga := hid (rangeAt_kept hra htt.out.bel)
                    have cdp : (World.alloc wx (.cells y.2.cells.toArray 52)).cell? ⟨gb, j, none⟩ = some (.int .i64 y.1) := by
                      have := (rangeAt_kept (rangeAt_kept hrb htt.out.bel) ba) 0 (.int .i64 y.1) rfl
                      simpa using this
                    have hj0 : (0 : Int) ≤ (j : Int) := Int.natCast_nonneg _
                    have hj1 : (j : Int) < (n1 : Int) := by omega
                    have hj2 : (j : Int) < (m1 : Int) := by have := en1.out; omega
                    have hmx := hid (maxF_snoc m0 xs j y hy)
                    have hcs := hid (callsOf_step xs j y hy)
                    have lcs : Hid ((callsOf (xs.take j)).length ≤ 1000) := hid (by have := callsOf_len (xs.take j); simp at this; omega)
                    have cop := (VarAt.new wx y.2.cells 52).cell 0 (v := .int .i64 y.2.op) rfl
                    have cnm := (VarAt.new wx y.2.cells 52).cell 1 (v := .string y.2.nm) rfl
                    have agy := y.2.agg
                    have tx1 := hid (htt.out.keep ba)
                    generalize maxF m0 (xs.take j) = mj at *
                    replace em1 := hid em1
                    clear r1 r2 ev1 ev2 hra hrb ba hst hy
                    by_cases hop : (y.2.op == 11) = true
                    · rw [if_pos hop] at hcs
                      have tx2 := hid (tx1.out.keep ((Below.refl _ _).alloc (Nat.le_refl _) (.cells #[.string y.2.nm] 9)))
                      have hrow : Hid (strsAt ((World.alloc wx (.cells y.2.cells.toArray 52)).alloc (.cells #[.string y.2.nm] 9)) (fun _ => True) (.slice (some ⟨(World.heap wx).size + 1, 0, none⟩) 1 1) [y.2.nm]) := hid (by
                        have := RowAt.made (World.alloc wx (.cells y.2.cells.toArray 52)) [.string y.2.nm] 9 (fun _ => True) trivial 1 rfl
                        rw [World.size_alloc] at this
                        exact this)
                      go_wp2_with (first
                        | refine wl_load 52 _ rfl rfl ga (j * 58) rfl y.2.cells rga.out agy ?_
                        | refine wl_store_new 52 _ _ rfl rfl wx 52 _ rfl (World.heap wx).size rfl rfl y.2.cells rfl agy rfl sok.out ?_
                        | (refine wl_app2 rfl _ _ rfl (.slice pc nc cc) rfl (callsOf (xs.take j)) tx2.out (.slice (some ⟨(World.heap wx).size + 1, 0, none⟩) 1 1) rfl (fun _ => True) [y.2.nm] hrow.out (by have := lcs.out; simp; omega) ?_
                           intro p' c' w' n' L' hL hT' hG'
                           rw [← hcs.out] at hL))
                      go_roundw
                      case rel => exact ⟨j + 1, _, _, _, by omega, by go_num, by rw [hmx.out]; congr 1; split <;> omega, rfl, by rw [← hL.out]; exact hT'⟩
                      case measure => simp [intOf]; omega
                    · have hof : (y.2.op == 11) = false := by simpa using hop
                      rw [if_neg hop, List.append_nil] at hcs
                      go_wp2_with (first
                        | refine wl_load 52 _ rfl rfl ga (j * 58) rfl y.2.cells rga.out agy ?_
                        | refine wl_store_new 52 _ _ rfl rfl wx 52 _ rfl (World.heap wx).size rfl rfl y.2.cells rfl agy rfl sok.out ?_)
                      go_roundw
                      case rel => exact ⟨j + 1, _, _, _, by omega, by go_num, by rw [hmx.out]; congr 1; split <;> omega, rfl, by rw [hcs.out]; exact tx1⟩
                      case measure => simp [intOf]; omega
                  · have hkl : xs.take j = xs := List.take_of_length_le (by have := en1.out; omega)
                    rw [hkl] at htt
                    rw [hkl]
                    have CA := hid (calls_any l (.slice pb l.length cb) wx _ (hst.out.kept htt.out.bel) (by have := hn6.out; exact this))
                    rw [hxs.out] at CA
                    have lc : Hid ((callsOf xs).length ≤ 2000000) := hid (by have := callsOf_len xs; have := en1.out; omega)
                    clear hkl hst two
                    go_wp2_with fail
                    refine CA.out.mono ?_
                    rintro e w37 ⟨u, rfl, hu⟩
                    have CS := hid (refSame_any (callsOf xs) (callsOf xs) u (.slice pc nc cc) w37 _ _ (hu.row lc.out) ((htt.out.keep hu.bel).row lc.out))
                    rw [sameT_refl] at CS
                    replace hu := hid hu
                    clear CA
                    go_wp2_with fail
                    refine CS.out.mono ?_
                    rintro e w38 ⟨rfl, hb⟩
                    have hfin := hid (Below.over hbe.out (Below.over htt.out.bel (Below.over hu.out.bel hb)))
                    clear CS hu hb htt hbe
                    go_wp2_with fail
                    go_roundw
                    case rel => exact ⟨i + 1, by have := hil.out; omega, by go_num, by rw [fs.out, List.length_append, ← en1.out]; simp; exact hwn.out, by rw [fs.out, maxF_app, hm0.out], hfin⟩
                    case measure => simp [intOf]; have := hil.out; omega
              · have hkl : R.take i = R := List.take_of_length_le (by omega)
                rw [hkl]
                have CT := hid (count_any p wr _ (pk'.out.keep (fun g _ hl => hbe.out.block g hl)))
                unfold Pg.val at CT
                rw [← eL.out.2, cntF_len _ 0 (by omega) (by have := eL.out.1; omega), Int.zero_add] at CT
                have rgP := hid (V5'.out.kept hbe.out).range
                have agp : AggT 29 p.cells.length := agg29
                have B10 := hid (Below.over B9.out hbe.out)
                have hend : ¬ i < nr2 := by have := nR.out; omega
                have hend2 : ¬ ((i : Int) < (nr2 : Int)) := by omega
                generalize ((flats R).length : Int) = fn at *
                generalize maxF (-1) (flats R) = fm at *
                clear rt mpl cs fl n47 n48 hk2 hlt hR n2 g1 hf1 hat gd' pk' eL nR hkl V5' B9 hbe
                go_wp2_with (refine wl_load 29 _ rfl rfl wm.heap.size 0 rfl p.cells rgP.out agp ?_)
                refine CT.out.mono ?_
                rintro e w40 ⟨rfl, hb⟩
                replace B10 := hid (Below.over B10.out hb)
                clear CT hb rgP
                go_wp2_with fail
                go_ret
                exact ⟨rfl, B10.out⟩
  · have g1 : decide ((N.length : Int) > 400) = true := by simp; omega
    go_wp2_with fail
    go_ret
    exact ⟨rfl, hba.out⟩
end Go.Proofs.Ytfdfeiempeciiaa
