/- FldB, Rf -/
import Derived.Test.YtdpbapoahfggeaaDoorM05
import Derived.Test.YtdpbapoahfggeaaDoorM04
import Derived.RangeFuncNested
import Derived.RangeFuncBound
import Derived.RangeFuncCalls
import Derived.RangeFuncLeaves
import Derived.Shelf.Abstract
import Derived.Shelf.RegionOpen
import Derived.OwnWalkIn
import Derived.TacticsInMore
import Derived.LoopNIn
import Derived.LoopIn
/- Contracts of fieldsCanBe. -/
namespace Go.Proofs.YtdpbapoahfggeaaDoor
open Go.ChangeShapes Go.WideShapes Go.ChangeAt Go.RowKit
set_option linter.unusedVariables false
set_option linter.unusedSimpArgs false

set_option maxHeartbeats 1000000 in
theorem number58 (named g : Bool) (n : Int) (p : Value) (w : World) (C : ∀ W, Below w.heap.size w W → Calls Tryd.prog 76 #[.int .i64 n, p] W fun e w' => e = .returned (.bool g) ∧ Below W.heap.size W w') :
    Calls Tryd.prog 80 #[.bool named, .int .i64 n, .func (.func 76) #[] #[p]] w fun e w' => e = .returned (.bool (fld named g (n == 0))) ∧ Below w.heap.size w w' := by
  replace C := hid (C w (Below.refl _ _))
  cases named
  · clear C
    go_enter Tryd.func80, Tryd.ntmps80
    go_wp2
    go_ret
    exact ⟨rfl, Below.refl _ _⟩
  · cases g
    · go_enter Tryd.func80, Tryd.ntmps80
      go_wp2_with (go_at_call 76; refine Calls.mono C.out ?_; rintro e w' ⟨rfl, hb'⟩)
      go_ret
      exact ⟨rfl, hb'⟩
    · go_enter Tryd.func80, Tryd.ntmps80
      go_wp2_with (go_at_call 76; refine Calls.mono C.out ?_; rintro e w' ⟨rfl, hb'⟩)
      go_ret
      exact ⟨rfl, hb'⟩

set_option maxHeartbeats 1000000 in
theorem number60 (named g : Bool) (n : Int) (p : Value) (w : World) (C : ∀ W, Below w.heap.size w W → Calls Tryd.prog 78 #[.int .i64 n, p] W fun e w' => e = .returned (.bool g) ∧ Below W.heap.size W w') :
    Calls Tryd.prog 80 #[.bool named, .int .i64 n, .func (.func 78) #[] #[p]] w fun e w' => e = .returned (.bool (fld named g (n == 0))) ∧ Below w.heap.size w w' := by
  replace C := hid (C w (Below.refl _ _))
  cases named
  · clear C
    go_enter Tryd.func80, Tryd.ntmps80
    go_wp2
    go_ret
    exact ⟨rfl, Below.refl _ _⟩
  · cases g
    · go_enter Tryd.func80, Tryd.ntmps80
      go_wp2_with (go_at_call 78; refine Calls.mono C.out ?_; rintro e w' ⟨rfl, hb'⟩)
      go_ret
      exact ⟨rfl, hb'⟩
    · go_enter Tryd.func80, Tryd.ntmps80
      go_wp2_with (go_at_call 78; refine Calls.mono C.out ?_; rintro e w' ⟨rfl, hb'⟩)
      go_ret
      exact ⟨rfl, hb'⟩

set_option maxHeartbeats 1000000 in
theorem number61 (named g : Bool) (n : Int) (p q : Value) (w : World) (C : ∀ W, Below w.heap.size w W → Calls Tryd.prog 79 #[.int .i64 n, p, q] W fun e w' => e = .returned (.bool g) ∧ Below W.heap.size W w') :
    Calls Tryd.prog 80 #[.bool named, .int .i64 n, .func (.func 79) #[] #[p, q]] w fun e w' => e = .returned (.bool (fld named g (n == 0))) ∧ Below w.heap.size w w' := by
  replace C := hid (C w (Below.refl _ _))
  cases named
  · clear C
    go_enter Tryd.func80, Tryd.ntmps80
    go_wp2
    go_ret
    exact ⟨rfl, Below.refl _ _⟩
  · cases g
    · go_enter Tryd.func80, Tryd.ntmps80
      go_wp2_with (go_at_call 79; refine Calls.mono C.out ?_; rintro e w' ⟨rfl, hb'⟩)
      go_ret
      exact ⟨rfl, hb'⟩
    · go_enter Tryd.func80, Tryd.ntmps80
      go_wp2_with (go_at_call 79; refine Calls.mono C.out ?_; rintro e w' ⟨rfl, hb'⟩)
      go_ret
      exact ⟨rfl, hb'⟩

set_option maxHeartbeats 1000000 in
theorem row_any (named : Bool) (v : Value) (xs : List Itm) (b : Nat) (a5 : Option Addr) (n5 p5 : Nat) (rv gv tv ev cv tv5 dv mv : Value) (w : World) (hx : Items w v xs) (hn : xs.length ≤ 1000000) (hn5 : n5 ≤ 1000000)
    (hb : BoxAt w b [rv, gv, tv, ev, cv, tv5, .slice a5 n5 p5, dv, mv]) :
    Calls Tryd.prog 81 #[.bool named, v, .pointer (some ⟨b, 0, none⟩)] w fun e w' => e = .returned (.bool (fld named (goodB n5 xs) (decide (xs.length = 0)))) ∧ Below w.heap.size w w' := by
  obtain ⟨a, cap, rfl, hI⟩ := hx.at
  have c6 := hb.2 6 _ rfl
  have C := good_any (n5 : Int) a xs.length cap xs w rfl hI hn (by omega) (by omega)
  clear hb hx hI
  generalize hxl : xs.length = xl at *
  replace hxl := hid hxl
  cases named
  · have F : Hid (fld false (goodB n5 xs) (decide (xl = 0)) = ((xl : Int) == 0)) := hid (by
      show decide (xl = 0) = _
      rw [Bool.eq_iff_iff]; simp)
    rw [F.out]
    clear C
    go_enter Tryd.func81, Tryd.ntmps81
    go_wp2
    go_ret
    exact ⟨rfl, Below.refl _ _⟩
  · show Calls Tryd.prog 81 _ w fun e w' => e = .returned (.bool (goodB n5 xs)) ∧ Below w.heap.size w w'
    cases hg : goodB n5 xs
    · rw [hg] at C
      replace C := hid C
      go_enter Tryd.func81, Tryd.ntmps81
      go_wp2_with (go_at_call 82; refine Calls.mono C.out ?_; rintro e w' ⟨rfl, hb'⟩)
      go_ret
      exact ⟨rfl, hb'⟩
    · rw [hg] at C
      replace C := hid C
      go_enter Tryd.func81, Tryd.ntmps81
      go_wp2_with (go_at_call 82; refine Calls.mono C.out ?_; rintro e w' ⟨rfl, hb'⟩)
      go_ret
      exact ⟨rfl, hb'⟩

end Go.Proofs.YtdpbapoahfggeaaDoor
/- A range over a function, where what a round is handed is known to fit, and what it may touch is named. -/
namespace Go.Proofs.YtdpbapoahfggeaaDoor
open Go.ChangeShapes Go.WideShapes Go.ChangeAt Go.RowKit
set_option linter.unusedVariables false
attribute [local go_sem] Oper.semAt_some

theorem below_two (w : World) (o1 o2 : Obj) : Below w.heap.size w ((w.alloc o1).alloc o2) := below2 w o1 o2
/-- Nothing that was there has turned, but blocks of T. -/
structure Touch (T : Nat → Prop) (w w' : World) : Prop where
  os : w'.os = w.os
  tape : w'.tape = w.tape
  output : w'.output = w.output
  size : w.heap.size ≤ w'.heap.size
  block : ∀ b, b < w.heap.size → ¬ T b → w'.heap[b]? = w.heap[b]?

theorem Touch.refl (T : Nat → Prop) (w : World) : Touch T w w := ⟨rfl, rfl, rfl, Nat.le_refl _, fun _ _ _ => rfl⟩
theorem Touch.trans {T : Nat → Prop} {a b c : World} (h : Touch T a b) (k : Touch T b c) : Touch T a c :=
  ⟨k.os.trans h.os, k.tape.trans h.tape, k.output.trans h.output, Nat.le_trans h.size k.size, fun i hi hT => (k.block i (Nat.lt_of_lt_of_le hi h.size) hT).trans (h.block i hi hT)⟩
theorem Touch.mono {T U : Nat → Prop} {a b : World} (h : Touch T a b) (hU : ∀ i, i < a.heap.size → T i → U i) : Touch U a b :=
  ⟨h.os, h.tape, h.output, h.size, fun i hi hT => h.block i hi (fun ht => hT (hU i hi ht))⟩
theorem Touch.of_below {T : Nat → Prop} {a b : World} (h : Below a.heap.size a b) : Touch T a b := ⟨h.os, h.tape, h.output, h.size, fun i hi _ => h.block i hi⟩
theorem Touch.below {T : Nat → Prop} {a b : World} (h : Touch T a b) {B : Nat} (hB : ∀ i, i < B → i < a.heap.size ∧ ¬ T i) : Below B a b := ⟨h.os, h.tape, h.output, h.size, fun i hi => h.block i (hB i hi).1 (hB i hi).2⟩
theorem Touch.putObj {T : Nat → Prop} (w : World) (l : Nat) (o : Obj) (hT : T l) : Touch T w (w.putObj l o) :=
  ⟨rfl, rfl, rfl, by simp [World.putObj], fun b _ hb => World.putObj_heap_other (fun e => hb (by rw [e]; exact hT))⟩
theorem Touch.setCell {T : Nat → Prop} (w : World) (p : Addr) (v : Value) (hT : T p.block) : Touch T w (w.setCell p v) :=
  ⟨rfl, rfl, rfl, by simp [World.setCell], fun b _ hb => Below.heap_setCell w p v b (fun e => hb (by rw [e]; exact hT))⟩
/-- What a round does, whoever asks for it: it goes on, or says no more. -/
def Rounds (F : Fence) (m l N : Nat) (T : Nat → Prop) (Fit : Nat → Array Value → World → Prop) (J : Nat → World → Prop) (Jx : World → Prop) : Prop :=
  ∀ k args W, J k W → k < N → Fit k args W → YieldAt F m Tryd.prog l args W fun e W' =>
    (e = .returned (.bool true) ∧ J (k + 1) W' ∧ Touch (fun b => T b ∨ b = l) W W') ∨ (e = .returned (.bool false) ∧ Jx W' ∧ Touch (fun b => T b ∨ b = l) W W')

/-- How a round's body may be left. -/
def endPost (T : Nat → Prop) (I : Nat → World → Prop) (Ix : Code → World → Prop) (k : Nat) (W : World) : Exit → Act → World → Prop
  | .normal, _, W' => Touch T W W' ∧ I (k + 1) W'
  | .ret, _, W' => Touch T W W' ∧ Ix .ret W'
  | .exit id, _, W' => Touch T W W' ∧ Ix (.exit id) W'
  | .goto t, _, W' => Touch T W W' ∧ Ix (.goto t) W'
  | .panic _, _, _ => False
  | .outgrown, _, _ => False

theorem rounds_any {F : Fence} (hd : F.depth = none) {m m' : Nat} {P : Program} {l : Nat} {f : FuncId} {tmps : Array Value} {assign body : Code} {w : World} {R : Ending → World → Prop}
    (h : RoundIn F m P l f tmps assign body w R) : RoundIn F m' P l f tmps assign body w R := ⟨h.1, fun c cs _ => h.2 c cs (fun d e => by rw [hd] at e; cases e)⟩

/-- A function that hands over N things, each of which fits, or is stopped, and touches nothing itself. -/
def SeqW (F : Fence) (n g : Nat) (lb : Array Value) (N : Nat) (T : Nat → Prop) (Fit : Nat → Array Value → World → Prop) (w : World) : Prop :=
  ∀ (l : Nat) (J : Nat → World → Prop) (Jx : World → Prop) (W : World), Below w.heap.size w W → w.heap.size ≤ l → l < W.heap.size →
    (∀ m, Rounds F m l N T Fit J Jx) → J 0 W →
    CallsIn F n Tryd.prog g (#[.func (.yield l) #[] #[]] ++ lb) W fun e W' => (∃ v, e = .returned v) ∧ (J N W' ∨ Jx W')

theorem wpIn_range3 {F : Fence} {n : Nat} {g : Operand} {ps : Array Tmp} {assign body : Code} {Q : Exit → Act → World → Prop} {a : Act} {w : World}
    (hro : F.round = none) (hd : F.depth = none) {gf : Nat} {lb : Array Value} (hg : a.eval g = .func (.func gf) #[] lb) (hFg : F.fn gf) (eg : ∀ args w, (callFunc gf args).run Tryd.prog w = .ok (.enter gf args) w)
    {N : Nat} {T : Nat → Prop} {Fit : Nat → Array Value → World → Prop} (hseq : ∀ n, SeqW F n gf lb N T Fit w) (hT : ¬ T w.heap.size ∧ ¬ T (w.heap.size + 1)) (hps : ∀ k args W, Fit k args W → args.size = ps.size)
    (I : Nat → World → Prop) (Ix : Code → World → Prop) (hI : ∀ k W W', w.heap.size + 2 ≤ W.heap.size → I k W → Touch (fun b => b = w.heap.size ∨ b = w.heap.size + 1) W W' → I k W') (hIx : ∀ k W W', w.heap.size + 2 ≤ W.heap.size → Ix k W → Touch (fun b => b = w.heap.size ∨ b = w.heap.size + 1) W W' → Ix k W') (h0 : ∀ W, Below w.heap.size w W → W.heap.size = w.heap.size + 2 → I 0 W) (A : Nat → Act → World → Prop)
    (hA : ∀ k a' W W', A k a' W → (∀ b, b ≠ w.heap.size + 1 → W'.heap[b]? = W.heap[b]?) → W'.heap.size = W.heap.size → A k a' W')
    (hassign : ∀ (l k : Nat) (args : Array Value) (W : World) (K : Act → World → Prop), Fit k args W → w.heap.size + 2 ≤ W.heap.size → (∀ a' W', Below W.heap.size W W' → A k a' W' → K a' W') →
      assign.wpIn (F.inRound l) n Tryd.prog (Exit.then K (fun _ _ _ => False)) { tmps := (ps.zip args).foldl (fun t (p, v) => t.setIfInBounds p v) a.tmps, defers := [] } W)
    (hbody : ∀ (l k : Nat) (a' : Act) (W : World), I k W → k < N → A k a' W → w.heap.size + 2 ≤ W.heap.size → body.wpIn (F.inRound l) n Tryd.prog (endPost T I Ix k W) a' W)
    (hdone : ∀ (D : Nat) (W : World), I N W → D = w.heap.size → W.heap[D]? = some (.deferred (some [])) → Q .normal { a with defers := { target := .collected D, args := #[] } :: a.defers } W)
    (hstop : ∀ (D : Nat) (c : Code) (W : World), Ix c W → D = w.heap.size → W.heap[D]? = some (.deferred (some [])) → c.wpIn F n Tryd.prog Q { a with defers := { target := .collected D, args := #[] } :: a.defers } W) :
    (Code.rangeFunc g ps assign body).wpIn F n Tryd.prog Q a w := by
  refine wpIn_rangeFunc fun fn hfn => ?_
  rw [hro]
  have hdd : F.depth.isSome = true → 1 ≤ n := fun h => by rw [hd] at h; cases h
  generalize hR : (fun (st : LoopState) (pe : Option Code) => ({ state := st, pending := pe, fn, tmps := a.tmps, params := ps, assign, body, defers := w.heap.size } : Loop)) = R
  generalize hW : (w.alloc (.deferred (some []))).alloc (.loop (R .ready none)) = W1
  have b1 : Below w.heap.size w W1 := by rw [← hW]; exact below_two _ _ _
  have s1 : W1.heap.size = w.heap.size + 2 := by rw [← hW]; simp
  have q1 : W1.heap[w.heap.size + 1]? = some (.loop (R .ready none)) := by
    rw [← hW]
    have := World.alloc_heap_new (w.alloc (.deferred (some []))) (.loop (R .ready none))
    rwa [World.size_alloc] at this
  have q2 : W1.heap[w.heap.size]? = some (.deferred (some [])) := by
    rw [← hW, Below.heap_alloc _ _ _ (by simp)]
    exact World.alloc_heap_new w _
  refine ⟨w.heap.size + 1, [{ target := .collected w.heap.size, args := #[] }], W1, { target := .fn (.func gf) lb, args := #[.func (.yield (w.heap.size + 1)) #[] #[]] }, W1, gf, #[.func (.yield (w.heap.size + 1)) #[] #[]] ++ lb, W1, ?_, ?_, ?_, ?_, hdd, ?_⟩
  · rw [← hW, ← hR]
    exact run_enterLoop_outer _ _ _ _ _
  · simp only [resolve, hg]
    simp [go_sem]
  · intro f' hf'
    simp [Target.leads] at hf'
    subst hf'
    exact hFg
  · simp [invoke, go_sem, eg]
  · refine (hseq (n - 1) (w.heap.size + 1) (fun k W => I k W ∧ w.heap.size + 2 ≤ W.heap.size ∧ W.heap[w.heap.size + 1]? = some (.loop (R .ready none)) ∧ W.heap[w.heap.size]? = some (.deferred (some [])))
      (fun W => ∃ c, Ix c W ∧ w.heap.size + 2 ≤ W.heap.size ∧ W.heap[w.heap.size + 1]? = some (.loop (R .done (some c))) ∧ W.heap[w.heap.size]? = some (.deferred (some []))) W1 b1 (by omega) (by omega) ?_ ⟨h0 _ b1 s1, by omega, q1, q2⟩).mono ?_
    · rintro m k args W ⟨x1, x2, x3, x4⟩ hk hf
      have hy := run_yield (P := Tryd.prog) (args := args) x3 (by rw [← hR]; exact hps k args W hf)
      rw [← hR] at hy
      refine ⟨fn, _, assign, body, hy, rounds_any hd (roundIn_of_wpIn hfn (hassign (w.heap.size + 1) k args W _ hf x2 fun a' W' hb hA' => ?_))⟩
      have z1 := hb.size
      have y1 : W'.heap[w.heap.size + 1]? = some (.loop (R .ready none)) := (hb.block _ (by omega)).trans x3
      have y2 : W'.heap[w.heap.size]? = some (.deferred (some [])) := (hb.block _ (by omega)).trans x4
      have r1 := run_beginRound (P := Tryd.prog) y1 (by rw [← hR])
      have e1 : ({ R .ready none with state := .busy } : Loop) = R .busy none := by rw [← hR]
      rw [e1] at r1
      refine ⟨_, r1, ?_⟩
      generalize hW2 : W'.putObj (w.heap.size + 1) (.loop (R .busy none)) = W2
      have z2 : W2.heap.size = W'.heap.size := by rw [← hW2]; simp [World.putObj]
      have u1 : W2.heap[w.heap.size + 1]? = some (.loop (R .busy none)) := by rw [← hW2]; exact World.putObj_heap_same (by omega)
      have u2 : W2.heap[w.heap.size]? = some (.deferred (some [])) := by rw [← hW2]; exact (World.putObj_heap_other (by omega)).trans y2
      have t12 : Touch (fun b => T b ∨ b = w.heap.size + 1) W W2 := (Touch.of_below hb).trans (by rw [← hW2]; exact Touch.putObj _ _ _ (.inr rfl))
      have b12 : Touch (fun b => b = w.heap.size ∨ b = w.heap.size + 1) W W2 := (Touch.of_below hb).trans (by rw [← hW2]; exact Touch.putObj _ _ _ (.inr rfl))
      have a2 : A k a' W2 := hA k a' W' W2 hA' (fun b hb' => by rw [← hW2]; exact World.putObj_heap_other hb') z2
      refine wpIn_mono (hbody (w.heap.size + 1) k a' W2 (hI _ _ _ x2 x1 b12) hk a2 (by omega)) ?_
      have fin : ∀ (jump : Option Code) (W3 : World), Touch T W2 W3 → ∃ W4, (Instr.endRound (w.heap.size + 1) jump).run Tryd.prog W3 = .ok (.bool jump.isNone) W4 ∧ (w.heap.size + 2 ≤ W3.heap.size ∧ Touch (fun b => b = w.heap.size ∨ b = w.heap.size + 1) W3 W4) ∧ w.heap.size + 2 ≤ W4.heap.size ∧
          W4.heap[w.heap.size + 1]? = some (.loop (R (if jump.isNone then .ready else .done) jump)) ∧ W4.heap[w.heap.size]? = some (.deferred (some [])) ∧ Touch (fun b => T b ∨ b = w.heap.size + 1) W W4 := fun jump W3 t3 => by
        have v1 : W3.heap[w.heap.size + 1]? = some (.loop (R .busy none)) := (t3.block _ (by omega) hT.2).trans u1
        have v2 : W3.heap[w.heap.size]? = some (.deferred (some [])) := (t3.block _ (by omega) hT.1).trans u2
        have r2 := run_endRound (P := Tryd.prog) jump v1
        have e2 : ({ R .busy none with state := if jump.isNone then .ready else .done, pending := jump } : Loop) = R (if jump.isNone then .ready else .done) jump := by rw [← hR]
        rw [e2] at r2
        have z3 := t3.size
        exact ⟨_, r2, ⟨by omega, Touch.putObj _ _ _ (.inr rfl)⟩, by simp [World.putObj]; omega, World.putObj_heap_same (by omega), (World.putObj_heap_other (by omega)).trans v2,
          t12.trans ((t3.mono (fun _ _ h => .inl h)).trans (Touch.putObj _ _ _ (.inr rfl)))⟩
      rintro e a3 W3 hp
      cases e with
      | normal =>
        obtain ⟨W4, f1, f2, f3, f4, f5, f6⟩ := fin none W3 hp.1
        exact ⟨_, W4, f1, .inl ⟨rfl, ⟨hI _ _ _ f2.1 hp.2 f2.2, f3, f4, f5⟩, f6⟩⟩
      | ret =>
        obtain ⟨W4, f1, f2, f3, f4, f5, f6⟩ := fin (some .ret) W3 hp.1
        exact ⟨_, W4, f1, .inr ⟨rfl, ⟨.ret, hIx _ _ _ f2.1 hp.2 f2.2, f3, f4, f5⟩, f6⟩⟩
      | exit id =>
        obtain ⟨W4, f1, f2, f3, f4, f5, f6⟩ := fin (some (.exit id)) W3 hp.1
        exact ⟨_, W4, f1, .inr ⟨rfl, ⟨.exit id, hIx _ _ _ f2.1 hp.2 f2.2, f3, f4, f5⟩, f6⟩⟩
      | goto t =>
        obtain ⟨W4, f1, f2, f3, f4, f5, f6⟩ := fin (some (.goto t)) W3 hp.1
        exact ⟨_, W4, f1, .inr ⟨rfl, ⟨.goto t, hIx _ _ _ f2.1 hp.2 f2.2, f3, f4, f5⟩, f6⟩⟩
      | panic ch => exact hp.elim
      | outgrown => exact hp.elim
    · rintro e W ⟨⟨v, rfl⟩, ⟨x1, x2, x3, x4⟩ | ⟨c, x1, x2, x3, x4⟩⟩
      · have := run_endLoop (P := Tryd.prog) x3 (by rw [← hR]; simp)
        have e : (R .ready none).pending = none := by rw [← hR]
        rw [e] at this
        exact ⟨none, _, this, hdone w.heap.size _ (hI _ _ _ x2 x1 (Touch.putObj W (w.heap.size + 1) _ (.inr rfl))) rfl ((World.putObj_heap_other (by omega)).trans x4)⟩
      · have := run_endLoop (P := Tryd.prog) x3 (by rw [← hR]; simp)
        have e : (R .done (some c)).pending = some c := by rw [← hR]
        rw [e] at this
        exact ⟨some c, _, this, hstop w.heap.size c _ (hIx _ _ _ x2 x1 (Touch.putObj W (w.heap.size + 1) _ (.inr rfl))) rfl ((World.putObj_heap_other (by omega)).trans x4)⟩
end Go.Proofs.YtdpbapoahfggeaaDoor
