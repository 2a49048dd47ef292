/- The walk of TreeSame. -/
import Derived.Test.YtfdfeiempeciiaaAlive
import Derived.Test.YtfdfeiempeciiaaInts
import Derived.Test.YtfdfeiempeciiaaBare
import Derived.Test.YtfdfeiempeciiaaMake1
import Derived.Test.YtfdfeiempeciiaaRefProg
import Derived.Test.YtfdfeiempeciiaaLens
import Derived.Deep.CutBlock
import Derived.Deep.CutRange
import Derived.Deep.DeepCutAuto
namespace Go.Proofs.Ytfdfeiempeciiaa
open Go.ChangeShapes Go.WideShapes Go.ChangeAt Go.RowKit
set_option linter.unusedVariables false

theorem Pg.one4 {w : World} {F : Nat → Prop} (p : Pg) (h : p.ok w F) : ∀ v ∈ p.cells, v.oneCell' = true := by
  intro v hv
  simp only [Pg.cells, List.mem_cons, List.not_mem_nil, or_false] at hv
  rcases hv with rfl | rfl | rfl | rfl
  · exact h.1.1.one
  · exact h.2.1.1.one
  · exact h.2.2.1.1.one
  · exact h.2.2.2.1.one
theorem Pg.val4 (p : Pg) : Value.agg #[p.rv, p.gv, p.fv, p.tv] = p.val := rfl
/-- The cells of the boxes of two programs. -/
def Box2 (b : Nat) (p q : Pg) (W : World) : Prop := (W.cell? ⟨b, 0, none⟩ = some p.rv ∧ W.cell? ⟨b, 1, none⟩ = some p.gv ∧ W.cell? ⟨b, 2, none⟩ = some p.fv ∧ W.cell? ⟨b, 3, none⟩ = some p.tv) ∧ (W.cell? ⟨b + 1, 0, none⟩ = some q.rv ∧ W.cell? ⟨b + 1, 1, none⟩ = some q.gv ∧ W.cell? ⟨b + 1, 2, none⟩ = some q.fv ∧ W.cell? ⟨b + 1, 3, none⟩ = some q.tv)
theorem box2_two {W : World} {b : Nat} {p q : Pg} (h : VarAt W b p.cells 29) (k : VarAt W (b + 1) q.cells 29) : Box2 b p q W := ⟨⟨h.cell 0 rfl, h.cell 1 rfl, h.cell 2 rfl, h.cell 3 rfl⟩, k.cell 0 rfl, k.cell 1 rfl, k.cell 2 rfl, k.cell 3 rfl⟩
theorem strsAt.kept {w w' : World} {F : Nat → Prop} {v : Value} {l : List ByteArray} (h : strsAt w F v l) (k : Below w.heap.size w w') : strsAt w' F v l := RowAt.kept h k
theorem rows_same {w w' : World} {F G : Nat → Prop} {v u : Value} (a b : List St) (ha : stsOk w F v a) (hb : stsOk w' G u b) : sameT (rowT a) (rowT b) = eqL St.same a b := by
  have := rowT_same a b ha hb [] []
  simpa [sameT, eqL] using this
theorem exs_same {w w' : World} {F G : Nat → Prop} (a b : Ex) (ha : a.ok w F) (hb : b.ok w' G) : sameT a.texts b.texts = a.same b := by
  have := Ex.texts_same a b ha hb [] []
  simpa [sameT, eqL] using this
theorem rangeAt_next {W0 W w' : World} {b o : Nat} {cs : List Value} (h : W0.rangeAt b o cs) (hb : Below W.heap.size W w') (eh : W.heap = W0.heap) : w'.rangeAt b o cs := fun j v hv => by
  have := h j v hv
  have hl := World.block_lt_of_cell? W0 _ this
  rw [hb.cell (p := ⟨b, o + j, none⟩) (by rw [eh]; exact hl), World.cell?_of_block (w := W0) (w' := W) (a := ⟨b, o + j, none⟩) (by rw [eh])]
  exact this
/-- A call in a region that draws its order, guarded or not, by its contract. -/
theorem step_callW {ops : Array Oper} {o : Oper} {a : Act} {w : World} {K : Act → World → Prop} {Q : Exit → Act → World → Prop} {E : Prop} (f : Nat) (ef : ∀ args w, (callFunc f args).run Try.prog w = .ok (.enter f args) w)
    (hw : Region.wanted o (yielded ops a.tmps) = true) (x y : Operand) (ts : Array TypeId) (ho : o.op = .call { callee := .value (.func f), args := #[x, y], argTypes := ts }) (vx vy : Value) (hx : a.eval x = vx) (hy : a.eval y = vy)
    {b : Bool} (C : Calls Try.prog f #[vx, vy] w fun e w' => e = .returned (.bool b) ∧ Below w.heap.size w w') (h : ∀ r w', (r = Value.bool b ∧ Below w.heap.size w w') → K (a.put o.dst r) w') :
    if Region.wanted o (yielded ops a.tmps) = true then Oper.wp Try.prog o a w K Q else E := by
  rw [if_pos hw]
  unfold Oper.wp execOp
  have e : a.eval (.func f) = .func (.func f) #[] #[] := rfl
  have hv : #[x, y].map a.eval = #[vx, vy] := by simp [hx, hy]
  simp only [ho, resolve, hv, e, Deferred.ofValue, invoke, Sem.run_bind, Sem.run_pure, Result.andThen_ok, Array.append_empty, ef]
  simp
  rw [Oper.upon_enter]
  refine C.mono ?_
  rintro e w' ⟨rfl, hR⟩
  exact h _ w' ⟨rfl, hR⟩
theorem agg52z {s : St} : (Try.prog.info? 52).map (·.size) = some s.cells.length := s.agg.choose_spec.2.2
/-- The first of a row, as a row. -/
theorem row_first {W : World} {F : Nat → Prop} {v : Value} {l : List St} {s : St} (h : stsOk W F v l) (hs : l[0]? = some s) {p : Option Addr} {n c : Nat} (e : v = .slice p n c := by rfl) : 1 ≤ c ∧ stsOk W F (.slice p 1 c) [s] := by
  obtain ⟨⟨h1, h2⟩, h3⟩ := h.1
  have hl := (List.getElem?_eq_some_iff.1 hs).1
  rcases h3 with ⟨_, h0⟩ | ⟨g, cap, cur, te, hv, hF, hn, hg, htk⟩
  · omega
  · rw [e] at hv
    obtain ⟨rfl, rfl, rfl⟩ := Value.slice.inj hv
    refine ⟨by omega, ⟨⟨by simp [St.len], by simp⟩, .inr ⟨g, c, cur, te, rfl, hF, by simp; omega, hg, ?_⟩⟩, fun x hx => ?_⟩
    · cases l with
      | nil => simp at hs
      | cons a l =>
        simp at hs
        subst hs
        have h5 := congrArg (List.take 58) htk
        rw [List.take_take] at h5
        simp only [List.flatMap_cons] at h5
        rw [List.take_left' (St.len a)] at h5
        simp only [List.length_cons, List.length_nil, List.flatMap_cons, List.flatMap_nil, List.append_nil]
        rw [← h5]
        congr 1
        simp
        omega
    · simp at hx
      subst hx
      exact h.2 x (List.mem_of_getElem? hs)
theorem Pg.same_self (p : Pg) : p.same p = true := Pg.same_bare p p rfl

set_option maxRecDepth 100000 in
set_option maxHeartbeats 16000000 in
theorem same_law (v0 v1 : Value) (N M : List Int) (w : World) (hI : IsInts w w.heap.size v0 N) (hJ : IsInts w w.heap.size v1 M) :
    Calls Try.prog 3 #[v0, v1] w fun e w' => e = .returned (.bool true) ∧ Below w.heap.size w w' := by
  obtain ⟨av, capv, hv, hi⟩ := hI
  have hI : Hid (IsInts w w.heap.size v0 N) := hid ⟨av, capv, hv, hi⟩
  subst hv
  obtain ⟨au, capu, hu, hi2⟩ := hJ
  have hJ : Hid (IsInts w w.heap.size v1 M) := hid ⟨au, capu, hu, hi2⟩
  subst hu
  clear hi hi2
  go_enter Try.func3, Try.ntmps3
  go_wp2_with fail
  refine (alive_any _).mono ?_
  rintro e wa ⟨rfl, hba⟩
  replace hba := hid hba
  by_cases hf : N.length ≤ 400 ∧ M.length ≤ 400
  · obtain ⟨hf1, hf2⟩ := hf
    have g1 : decide ((N.length : Int) > 400) = false := by simp; omega
    have g2 : decide ((M.length : Int) > 400) = false := by simp; omega
    have hIa := hid ((hI.out.keep (fun b hb => hba.out.block b hb)).up hba.out.size)
    have hJa := hid ((hJ.out.keep (fun b hb => hba.out.block b hb)).up hba.out.size)
    go_wp2_with fail
    refine (make_any _ _ N hIa.out hf1).mono ?_
    rintro e wb ⟨p, rfl, mp⟩
    replace mp := hid mp
    have hJb := hid ((hJa.out.keep (fun b hb => mp.out.bel.block b hb)).up mp.out.bel.size)
    go_wp2_with fail
    refine (make_any _ _ M hJb.out hf2).mono ?_
    rintro e wm ⟨q, rfl, mq⟩
    replace mq := hid mq
    unfold Pg.val
    have V7 : Hid (VarAt ((wm.alloc (.cells #[.slice none 0 0, .slice none 0 0, .slice none 0 0, .slice none 0 0] 29)).alloc (.cells #[.slice none 0 0, .slice none 0 0, .slice none 0 0, .slice none 0 0] 29)) wm.heap.size [.slice none 0 0, .slice none 0 0, .slice none 0 0, .slice none 0 0] 29) := hid ((VarAt.new wm [.slice none 0 0, .slice none 0 0, .slice none 0 0, .slice none 0 0] 29).kept ((Below.refl _ _).alloc (Nat.le_refl _) _))
    have V8 : Hid (VarAt ((wm.alloc (.cells #[.slice none 0 0, .slice none 0 0, .slice none 0 0, .slice none 0 0] 29)).alloc (.cells #[.slice none 0 0, .slice none 0 0, .slice none 0 0, .slice none 0 0] 29)) (wm.heap.size + 1) [.slice none 0 0, .slice none 0 0, .slice none 0 0, .slice none 0 0] 29) := hid (by
      have := VarAt.new (wm.alloc (.cells #[.slice none 0 0, .slice none 0 0, .slice none 0 0, .slice none 0 0] 29)) [.slice none 0 0, .slice none 0 0, .slice none 0 0, .slice none 0 0] 29
      rw [World.size_alloc] at this
      exact this)
    have z0 : wm.heap.size < ((wm.alloc (.cells #[.slice none 0 0, .slice none 0 0, .slice none 0 0, .slice none 0 0] 29)).alloc (.cells #[.slice none 0 0, .slice none 0 0, .slice none 0 0, .slice none 0 0] 29)).heap.size := by simp only [World.size_alloc]; omega
    have B0 : Hid (Below wm.heap.size wm ((wm.alloc (.cells #[.slice none 0 0, .slice none 0 0, .slice none 0 0, .slice none 0 0] 29)).alloc (.cells #[.slice none 0 0, .slice none 0 0, .slice none 0 0, .slice none 0 0] 29))) := hid (below_two _ _ _)
    have o7 := hid (Pg.one4 p mp.out.ok)
    have o8 := hid (Pg.one4 q mq.out.ok)
    generalize hWW : ((wm.alloc (.cells #[.slice none 0 0, .slice none 0 0, .slice none 0 0, .slice none 0 0] 29)).alloc (.cells #[.slice none 0 0, .slice none 0 0, .slice none 0 0, .slice none 0 0] 29)) = WW at *
    replace hWW := hid hWW
    go_upto_region 6 with (first
        | (refine wl_store_part 29 _ _ rfl rfl wm.heap.size 0 rfl p.cells rfl agg29 o7.out _ _ (by rw [hWW.out]; exact V7.out) (by simp [Pg.cells]) ?_
           intro w7 V7' t7
           replace t7 := hid (hWW.out ▸ t7)
           replace V8 := hid (V8.out.touch t7.out (by omega))
           replace V7' := hid V7')
        | (refine wl_store_part 29 _ _ rfl rfl (wm.heap.size + 1) 0 rfl q.cells rfl agg29 o8.out _ _ V8.out (by simp [Pg.cells]) ?_
           intro w8 V8' t8
           replace V7' := hid (V7'.out.touch t8 (by omega))
           replace V8' := hid V8'
           replace t8 := hid t8))
    rw [splice_full _ _ (by simp [Pg.cells])] at V8' V7'
    have tt : Hid (Touch (fun g => wm.heap.size ≤ g) WW w8) := hid ((t7.out.mono (fun g _ h => by omega)).trans (t8.out.mono (fun g _ h => by omega)))
    have Bq : Hid (Below wm.heap.size wm w8) := hid (B0.out.trans (tt.out.below (fun i hi => ⟨by have := B0.out.size; omega, by omega⟩)))
    have pk : Hid (p.ok w8 (fun _ => True)) := hid ((mp.out.ok.mono (fun _ _ _ => trivial)).kept (Below.over mq.out.bel Bq.out))
    have qk : Hid (q.ok w8 (fun _ => True)) := hid ((mq.out.ok.mono (fun _ _ _ => trivial)).kept Bq.out)
    have B8 : Hid (Below w.heap.size w w8) := hid (Below.over hba.out (Below.over mp.out.bel (Below.over mq.out.bel Bq.out)))
    have lp := hid mp.out.texts
    have lq := hid mq.out.texts
    have rp := hid mp.out.rows
    have rq := hid mq.out.rows
    have xp := hid mp.out.exs
    have xq := hid mq.out.exs
    clear t7 t8 V7 V8 hWW o7 o8 tt Bq B0 z0 mp mq hIa hJa hJb hI hJ hba
    have hsame : Hid (sameT p.texts q.texts = p.same q) := hid (Pg.texts_same p q pk.out qk.out)
    simp only [Act.put]
    go_cut [39] from 25 to 40 (fun v39 wx => v39 = .bool false ∧ Hid (Below w8.heap.size w8 wx))
    case first =>
      have bx := box2_two V7'.out V8'.out
      simp only [Box2] at bx
      obtain ⟨⟨d0, d1, d2, d3⟩, e0, e1, e2, e3⟩ := bx
      have C9 : Hid (∀ (W : World) (hb : Below w8.heap.size w8 W), Calls Try.prog 9 #[.agg #[p.rv, p.gv, p.fv, p.tv], .agg #[q.rv, q.gv, q.fv, q.tv]] W fun e w' => e = .returned (.bool (p.same q)) ∧ Below W.heap.size W w') := hid (fun (W : World) (hb : Below w8.heap.size w8 W) => same_any p q W _ _ (pk.out.kept hb) (qk.out.kept hb))
      have C9s : Hid (∀ (W : World) (hb : Below w8.heap.size w8 W), Calls Try.prog 9 #[.agg #[p.rv, p.gv, p.fv, p.tv], .agg #[p.rv, p.gv, p.fv, p.tv]] W fun e w' => e = .returned (.bool true) ∧ Below W.heap.size W w') := hid (fun (W : World) (hb : Below w8.heap.size w8 W) => by
        have := same_any p p W _ _ (pk.out.kept hb) (pk.out.kept hb)
        rw [Pg.same_self] at this
        exact this)
      have CP : Hid (∀ (W : World) (hb : Below w8.heap.size w8 W), Calls Try.prog 11 #[.agg #[p.rv, p.gv, p.fv, p.tv]] W fun r w' => ∃ u, r = .returned u ∧ Txts W w' u p.texts) := hid (fun (W : World) (hb : Below w8.heap.size w8 W) => refProgram_any p W _ (pk.out.kept hb) lp.out)
      have CQ : Hid (∀ (W : World) (hb : Below w8.heap.size w8 W), Calls Try.prog 11 #[.agg #[q.rv, q.gv, q.fv, q.tv]] W fun r w' => ∃ u, r = .returned u ∧ Txts W w' u q.texts) := hid (fun (W : World) (hb : Below w8.heap.size w8 W) => refProgram_any q W _ (qk.out.kept hb) lq.out)
      have CS := hid (fun (W : World) (v u : Value) (h1 : strsAt W (fun _ => True) v p.texts) (h2 : strsAt W (fun _ => True) u q.texts) => refSame_any p.texts q.texts v u W _ _ h1 h2)
      rw [hsame.out] at CS
      generalize p.same q = b at *
      have Bel : Hid (Below w8.heap.size w8 w8) := hid (Below.refl _ _)
      go_region_held3 (fun w' => (w'.cell? ⟨wm.heap.size, 0, none⟩ = some p.rv ∧ w'.cell? ⟨wm.heap.size, 1, none⟩ = some p.gv ∧ w'.cell? ⟨wm.heap.size, 2, none⟩ = some p.fv ∧ w'.cell? ⟨wm.heap.size, 3, none⟩ = some p.tv) ∧ w'.cell? ⟨wm.heap.size + 1, 0, none⟩ = some q.rv ∧ w'.cell? ⟨wm.heap.size + 1, 1, none⟩ = some q.gv ∧ w'.cell? ⟨wm.heap.size + 1, 2, none⟩ = some q.fv ∧ w'.cell? ⟨wm.heap.size + 1, 3, none⟩ = some q.tv)
        (first | go_keep | exact box2_two V7'.out V8'.out)
        (first
          | (go_at_call 9; with_reducible refine (C9.out _ (below_drew Bel.out)).mono ?_; rintro r y1 ⟨rfl, hb⟩; replace V7' := hid (V7'.out.next hb rfl); replace V8' := hid (V8'.out.next hb rfl); have bz := box2_two V7'.out V8'.out; simp only [Box2] at bz; replace Bel := hid (bel_step Bel.out hb rfl rfl rfl rfl); clear hb)
          | (go_at_call 11; with_reducible refine (CP.out _ Bel.out).mono ?_; rintro r y2 ⟨vA, rfl, hA⟩; have hb := hA.bel; replace V7' := hid (V7'.out.next hb rfl); replace V8' := hid (V8'.out.next hb rfl); have bz := box2_two V7'.out V8'.out; simp only [Box2] at bz; replace Bel := hid (bel_step Bel.out hb rfl rfl rfl rfl); have HA := hid (hA.row lp.out); clear hb hA CP)
          | (go_at_call 11; with_reducible refine (CQ.out _ Bel.out).mono ?_; rintro r y3 ⟨vB, rfl, hB⟩; have hb := hB.bel; replace V7' := hid (V7'.out.next hb rfl); replace V8' := hid (V8'.out.next hb rfl); have bz := box2_two V7'.out V8'.out; simp only [Box2] at bz; replace Bel := hid (bel_step Bel.out hb rfl rfl rfl rfl); have HB := hid (hB.row lq.out); replace HA := hid (HA.out.kept hb); clear hb hB CQ)
          | (go_at_call 10; with_reducible refine (CS.out _ _ _ HA.out HB.out).mono ?_; rintro r y4 ⟨rfl, hb⟩; replace V7' := hid (V7'.out.next hb rfl); replace V8' := hid (V8'.out.next hb rfl); have bz := box2_two V7'.out V8'.out; simp only [Box2] at bz; replace Bel := hid (bel_step Bel.out hb rfl rfl rfl rfl); clear hb CS)
          | (go_at_call 9; with_reducible refine (C9s.out _ Bel.out).mono ?_; rintro r y5 ⟨rfl, hb⟩; replace V7' := hid (V7'.out.next hb rfl); replace V8' := hid (V8'.out.next hb rfl); have bz := box2_two V7'.out V8'.out; simp only [Box2] at bz; replace Bel := hid (bel_step Bel.out hb rfl rfl rfl rfl); clear hb))
      all_goals
        go_wp2_with fail
        go_meet
        case rel => exact ⟨rfl, Bel⟩
    case rest =>
      obtain ⟨rfl, hx⟩ := hcut
      replace V7' := hid (V7'.out.kept hx.out)
      replace V8' := hid (V8'.out.kept hx.out)
      replace pk := hid (pk.out.kept hx.out)
      replace qk := hid (qk.out.kept hx.out)
      replace B8 := hid (Below.over B8.out hx.out)
      obtain ⟨pt, ct, ept⟩ := pk.out.2.2.2.1.form
      obtain ⟨qt, dt, eqt⟩ := qk.out.2.2.2.1.form
      have k7 : wc.cell? ⟨wm.heap.size, 3, none⟩ = some (.slice pt p.threads.length ct) := by rw [← ept]; exact V7'.out.cell 3 rfl
      have n47 := pk.out.2.2.2.1.1.2
      have n48 := qk.out.2.2.2.1.1.2
      have ths := pk.out.2.2.2
      rw [ept] at ths
      replace ths := hid ths
      have qhs := qk.out.2.2.2
      rw [eqt] at qhs
      replace qhs := hid qhs
      replace ept := hid ept
      replace eqt := hid eqt
      clear hx hsame lp lq
      go_wp2_with fail
      go_loopw [43] (fun vi wr => ∃ (k : Nat), k ≤ p.threads.length ∧ vi = .int .i64 k ∧ Hid (Below wc.heap.size wc wr)) (fun vi _ => p.threads.length - (intOf vi).toNat)
      case atStart => exact ⟨0, Nat.zero_le _, rfl, hid (Below.refl _ _)⟩
      case round =>
        obtain ⟨k, hk, rfl, hat⟩ := hrel
        clear k7
        by_cases hlt : k < p.threads.length
        · obtain ⟨t, ht⟩ : ∃ t, p.threads[k]? = some t := ⟨_, List.getElem?_eq_getElem hlt⟩
          have htm := List.mem_of_getElem? ht
          obtain ⟨g, cap, eg, hF, hgl, hrg⟩ := RowAt.elem Th.len ths.out.1 ht
          obtain ⟨rfl, -, rfl⟩ := Value.slice.inj eg
          clear eg
          have tko := hid (Th.ok.kept (ths.out.2 t htm) hat.out)
          have rg := hid (rangeAt_kept hrg hat.out)
          have hk0 : (0 : Int) ≤ (k : Int) := Int.natCast_nonneg _
          have hk1 : (k : Int) < (p.threads.length : Int) := by omega
          have one := hid (Th.ok.one tko.out)
          obtain ⟨pa, ca, ea⟩ := Th.ok.form tko.out
          have ba : Hid (Below wr.heap.size wr (wr.alloc (.cells t.cells.toArray 37))) := hid ((Below.refl _ _).alloc (Nat.le_refl _) _)
          have T8 := hid (VarAt.new wr t.cells 37)
          have ts := stsOk.kept tko.out ba.out
          rw [ea] at ts
          replace ts := hid ts
          have k8 : (wr.alloc (.cells t.cells.toArray 37)).cell? ⟨wm.heap.size + 1, 3, none⟩ = some (.slice qt q.threads.length dt) := by rw [← eqt.out]; exact ((V8'.out.kept hat.out).kept ba.out).cell 3 rfl
          replace hat := hid (Below.over hat.out ba.out)
          replace ea := hid ea
          have lr := hid (rp.out t htm)
          clear hrg tko ba
          go_upto_region 11 with (first
            | refine wl_load 37 _ rfl rfl g (k * 3) rfl t.cells rg.out t.agg ?_
            | refine wl_store_new 37 _ _ rfl rfl wr 37 _ rfl wr.heap.size rfl rfl t.cells rfl t.agg rfl one.out ?_)
          go_wp2_with fail
          generalize hW1 : wr.alloc (.cells t.cells.toArray 37) = W1 at *
          replace hW1 := hid hW1
          have zb8 : wr.heap.size < W1.heap.size := T8.out.lt
          go_loopw [51] (fun vi wx => ∃ (j : Nat), j ≤ q.threads.length ∧ vi = .int .i64 j ∧ Hid (Below W1.heap.size W1 wx)) (fun vi _ => q.threads.length - (intOf vi).toNat)
          case atStart => exact ⟨0, Nat.zero_le _, rfl, hid (Below.refl _ _)⟩
          case round =>
            obtain ⟨j, hj, rfl, hax⟩ := hrel
            rename World => wx
            clear k8
            by_cases hjl : j < q.threads.length
            · obtain ⟨u, hu⟩ : ∃ u, q.threads[j]? = some u := ⟨_, List.getElem?_eq_getElem hjl⟩
              have hum := List.mem_of_getElem? hu
              obtain ⟨g2, cap2, eg2, hF2, hgl2, hrg2⟩ := RowAt.elem Th.len qhs.out.1 hu
              obtain ⟨rfl, -, rfl⟩ := Value.slice.inj eg2
              clear eg2
              have uo := hid (Th.ok.kept (Th.ok.kept (qhs.out.2 u hum) hat.out) hax.out)
              have rg2 := hid (rangeAt_kept (rangeAt_kept hrg2 hat.out) hax.out)
              have hj0 : (0 : Int) ≤ (j : Int) := Int.natCast_nonneg _
              have hj1 : (j : Int) < (q.threads.length : Int) := by omega
              have one2 := hid (Th.ok.one uo.out)
              obtain ⟨pb, cb, eb⟩ := Th.ok.form uo.out
              have ba : Hid (Below (World.heap wx).size wx (World.alloc wx (.cells u.cells.toArray 37))) := hid ((Below.refl _ _).alloc (Nat.le_refl _) _)
              have T10 := hid (VarAt.new wx u.cells 37)
              have us := stsOk.kept uo.out ba.out
              rw [eb] at us
              replace us := hid us
              have tx := hid ((ts.out.kept hax.out).kept ba.out)
              have TX := hid ((T8.out.kept hax.out).kept ba.out)
              have hbx := hid (Below.over hax.out ba.out)
              replace eb := hid eb
              have lr2 := hid (rq.out u hum)
              clear hrg2 uo ba
              go_upto_region 14 with (first
                | refine wl_load 37 _ rfl rfl g2 (j * 3) rfl u.cells rg2.out u.agg ?_
                | refine wl_store_new 37 _ _ rfl rfl wx 37 _ rfl _ rfl rfl u.cells rfl u.agg rfl one2.out ?_)
              simp only [Act.put]
              generalize hW2 : World.alloc wx (.cells u.cells.toArray 37) = W2 at *
              replace hW2 := hid hW2
              clear hax
              have kk : Hid (∀ W, VarAt W wr.heap.size t.cells 37 → VarAt W (World.heap wx).size u.cells 37 → W.cell? ⟨wr.heap.size, 0, none⟩ = some (.slice pa t.body.length ca) ∧ W.cell? ⟨(World.heap wx).size, 0, none⟩ = some (.slice pb u.body.length cb)) := hid (fun W h1 h2 => ⟨by rw [← ea.out]; exact h1.cell 0 rfl, by rw [← eb.out]; exact h2.cell 0 rfl⟩)
              have s12 : Hid (sameT (rowT t.body) (rowT u.body) = eqL St.same t.body u.body) := hid (rows_same _ _ tx.out us.out)
              go_cut [68] from 56 to 69 (fun v68 wy => v68 = .bool false ∧ Hid (Below W2.heap.size W2 wy))
              case first =>
                have C12 : Hid (∀ (W : World) (hb : Below W2.heap.size W2 W), Calls Try.prog 12 #[.slice pa t.body.length ca, .slice pb u.body.length cb] W fun e w' => e = .returned (.bool (eqL St.same t.body u.body)) ∧ Below W.heap.size W w') := hid (fun W hb => stmts_any _ _ _ _ W _ _ (tx.out.kept hb) (us.out.kept hb))
                have CP : Hid (∀ (W : World) (hb : Below W2.heap.size W2 W), Calls Try.prog 13 #[.slice pa t.body.length ca] W fun r w' => ∃ u', r = .returned u' ∧ Txts W w' u' (rowT t.body)) := hid (fun W hb => refStmts_any _ _ W _ (tx.out.kept hb) lr.out)
                have CQ : Hid (∀ (W : World) (hb : Below W2.heap.size W2 W), Calls Try.prog 13 #[.slice pb u.body.length cb] W fun r w' => ∃ u', r = .returned u' ∧ Txts W w' u' (rowT u.body)) := hid (fun W hb => refStmts_any _ _ W _ (us.out.kept hb) lr2.out)
                have CS := hid (fun (W : World) (v v' : Value) (h1 : strsAt W (fun _ => True) v (rowT t.body)) (h2 : strsAt W (fun _ => True) v' (rowT u.body)) => refSame_any _ _ v v' W _ _ h1 h2)
                rw [s12.out] at CS
                generalize eqL St.same t.body u.body = b at *
                have Bel : Hid (Below W2.heap.size W2 W2) := hid (Below.refl _ _)
                have X8 := TX
                have X10 := T10
                have bx := kk.out _ X8.out X10.out
                go_region_held3 (fun w' => w'.cell? ⟨wr.heap.size, 0, none⟩ = some (.slice pa t.body.length ca) ∧ w'.cell? ⟨(World.heap wx).size, 0, none⟩ = some (.slice pb u.body.length cb))
                  (first | go_keep | exact kk.out _ X8.out X10.out)
                  (first
                    | (go_at_call 12; with_reducible refine (C12.out _ (below_drew Bel.out)).mono ?_; rintro r y1 ⟨rfl, hb⟩; replace X8 := hid (X8.out.next hb rfl); replace X10 := hid (X10.out.next hb rfl); have bz := kk.out _ X8.out X10.out; replace Bel := hid (bel_step Bel.out hb rfl rfl rfl rfl); clear hb)
                    | (go_at_call 13; with_reducible refine (CP.out _ Bel.out).mono ?_; rintro r y2 ⟨vA, rfl, hA⟩; have hb := hA.bel; replace X8 := hid (X8.out.next hb rfl); replace X10 := hid (X10.out.next hb rfl); have bz := kk.out _ X8.out X10.out; replace Bel := hid (bel_step Bel.out hb rfl rfl rfl rfl); have HA := hid (hA.row lr.out); clear hb hA CP)
                    | (go_at_call 13; with_reducible refine (CQ.out _ Bel.out).mono ?_; rintro r y3 ⟨vB, rfl, hB⟩; have hb := hB.bel; replace X8 := hid (X8.out.next hb rfl); replace X10 := hid (X10.out.next hb rfl); have bz := kk.out _ X8.out X10.out; replace Bel := hid (bel_step Bel.out hb rfl rfl rfl rfl); have HB := hid (hB.row lr2.out); replace HA := hid (HA.out.kept hb); clear hb hB CQ)
                    | (go_at_call 10; with_reducible refine (CS.out _ _ _ HA.out HB.out).mono ?_; rintro r y4 ⟨rfl, hb⟩; replace X8 := hid (X8.out.next hb rfl); replace X10 := hid (X10.out.next hb rfl); have bz := kk.out _ X8.out X10.out; replace Bel := hid (bel_step Bel.out hb rfl rfl rfl rfl); clear hb CS))
                all_goals
                  go_wp2_with fail
                  go_meet
                  case rel => exact ⟨by simp, Bel⟩
              case rest =>
                obtain ⟨rfl, hy⟩ := hcut
                replace tx := hid (tx.out.kept hy.out)
                replace us := hid (us.out.kept hy.out)
                replace TX := hid (TX.out.kept hy.out)
                replace T10 := hid (T10.out.kept hy.out)
                replace hbx := hid (Below.over hbx.out hy.out)
                clear hy s12
                go_upto_region 16 with fail
                go_cut [105] from 69 to 106 (fun v105 wy => v105 = .bool false ∧ Hid (Below wc.heap.size wc wy))
                case first =>
                  have Bel : Hid (Below wc.heap.size wc wc) := hid (Below.refl _ _)
                  obtain ⟨nt, ent⟩ : ∃ nt, nt = t.body.length := ⟨_, rfl⟩
                  obtain ⟨nu, enu⟩ : ∃ nu, nu = u.body.length := ⟨_, rfl⟩
                  rw [← ent, ← enu] at kk
                  by_cases h0 : t.body = []
                  · have h0' : nt = 0 := by rw [ent, h0]; rfl
                    subst h0'
                    obtain ⟨bx1, bx2⟩ := kk.out _ TX.out T10.out
                    clear ent enu kk h0
                    go_quiet (fail)
                    go_wp2_with fail
                    go_meet
                    case rel => exact ⟨rfl, hid ⟨rfl, rfl, rfl, Nat.le_refl _, fun _ _ => rfl⟩⟩
                  · by_cases h1 : u.body = []
                    · have h1' : nu = 0 := by rw [enu, h1]; rfl
                      have l0 : 0 < nt := by
                        have : t.body.length ≠ 0 := by simpa using h0
                        omega
                      have h0' : decide ((nt : Int) > 0) = true := by simp; omega
                      have i0 : (0 : Int) < (nt : Int) := by omega
                      subst h1'
                      obtain ⟨bx1, bx2⟩ := kk.out _ TX.out T10.out
                      clear ent enu kk h0 h1
                      go_quiet (fail)
                      go_wp2_with fail
                      go_meet
                      case rel => exact ⟨rfl, hid ⟨rfl, rfl, rfl, Nat.le_refl _, fun _ _ => rfl⟩⟩
                    · have l0 : t.body.length ≠ 0 := by simpa using h0
                      have l1 : u.body.length ≠ 0 := by simpa using h1
                      have h0' : decide ((nt : Int) > 0) = true := by simp; omega
                      have h1' : decide ((nu : Int) > 0) = true := by simp; omega
                      have i0 : (0 : Int) < (nt : Int) := by omega
                      have i1 : (0 : Int) < (nu : Int) := by omega
                      have j0 : 0 < nt := by omega
                      have j1 : 0 < nu := by omega
                      obtain ⟨s, hs⟩ : ∃ s, t.body[0]? = some s := ⟨_, List.getElem?_eq_getElem (by omega)⟩
                      obtain ⟨r, hr⟩ : ∃ r, u.body[0]? = some r := ⟨_, List.getElem?_eq_getElem (by omega)⟩
                      have hsm := List.mem_of_getElem? hs
                      have hrm := List.mem_of_getElem? hr
                      obtain ⟨ga, capa, ega, -, -, hga⟩ := RowAt.elem St.len tx.out.1 hs
                      obtain ⟨gb, capb, egb, -, -, hgb⟩ := RowAt.elem St.len us.out.1 hr
                      obtain ⟨rfl, -, rfl⟩ := Value.slice.inj ega
                      obtain ⟨rfl, -, rfl⟩ := Value.slice.inj egb
                      have ra : wc.rangeAt ga 43 s.e.cells := range_part (by simpa using hga) 43 _ rfl
                      have rb : wc.rangeAt gb 43 r.e.cells := range_part (by simpa using hgb) 43 _ rfl
                      have so := hid (tx.out.2 s hsm)
                      have ro := hid (us.out.2 r hrm)
                      have Z16 : Hid (VarAt wc wr.heap.size t.cells 37 ∧ VarAt wc (World.heap wx).size u.cells 37 ∧ wc.rangeAt ga 43 s.e.cells ∧ wc.rangeAt gb 43 r.e.cells) := hid ⟨TX.out, T10.out, ra, rb⟩
                      have n16 : Hid (∀ W0 W w' : World, (VarAt W0 wr.heap.size t.cells 37 ∧ VarAt W0 (World.heap wx).size u.cells 37 ∧ W0.rangeAt ga 43 s.e.cells ∧ W0.rangeAt gb 43 r.e.cells) → Below W.heap.size W w' → W.heap = W0.heap → (VarAt w' wr.heap.size t.cells 37 ∧ VarAt w' (World.heap wx).size u.cells 37 ∧ w'.rangeAt ga 43 s.e.cells ∧ w'.rangeAt gb 43 r.e.cells)) := hid (fun W0 W w' h hb e => ⟨h.1.next hb e, h.2.1.next hb e, rangeAt_next h.2.2.1 hb e, rangeAt_next h.2.2.2 hb e⟩)
                      have c16 : Hid (∀ W : World, (VarAt W wr.heap.size t.cells 37 ∧ VarAt W (World.heap wx).size u.cells 37 ∧ W.rangeAt ga 43 s.e.cells ∧ W.rangeAt gb 43 r.e.cells) → (W.cell? ⟨wr.heap.size, 0, none⟩ = some (.slice (some ⟨ga, 0, none⟩) nt ca) ∧ W.cell? ⟨(World.heap wx).size, 0, none⟩ = some (.slice (some ⟨gb, 0, none⟩) nu cb)) ∧ (W.cell? ⟨ga, 43, none⟩ = some (.int .i64 s.e.op) ∧ W.cell? ⟨ga, 44, none⟩ = some (.int .i64 s.e.bin) ∧ W.cell? ⟨ga, 45, none⟩ = some (.int .u64 s.e.n) ∧ W.cell? ⟨ga, 46, none⟩ = some (.int .i64 s.e.tk) ∧ W.cell? ⟨ga, 47, none⟩ = some (.string s.e.tr) ∧ W.cell? ⟨ga, 48, none⟩ = some (.string s.e.nm) ∧ W.cell? ⟨ga, 49, none⟩ = some s.e.kv ∧ W.cell? ⟨ga, 50, none⟩ = some (.int .i64 s.e.line) ∧ W.cell? ⟨ga, 51, none⟩ = some (.int .i64 s.e.col)) ∧ W.cell? ⟨gb, 43, none⟩ = some (.int .i64 r.e.op) ∧ W.cell? ⟨gb, 44, none⟩ = some (.int .i64 r.e.bin) ∧ W.cell? ⟨gb, 45, none⟩ = some (.int .u64 r.e.n) ∧ W.cell? ⟨gb, 46, none⟩ = some (.int .i64 r.e.tk) ∧ W.cell? ⟨gb, 47, none⟩ = some (.string r.e.tr) ∧ W.cell? ⟨gb, 48, none⟩ = some (.string r.e.nm) ∧ W.cell? ⟨gb, 49, none⟩ = some r.e.kv ∧ W.cell? ⟨gb, 50, none⟩ = some (.int .i64 r.e.line) ∧ W.cell? ⟨gb, 51, none⟩ = some (.int .i64 r.e.col)) := hid (fun W h => ⟨kk.out _ h.1 h.2.1, ⟨h.2.2.1 0 _ rfl, h.2.2.1 1 _ rfl, h.2.2.1 2 _ rfl, h.2.2.1 3 _ rfl, h.2.2.1 4 _ rfl, h.2.2.1 5 _ rfl, h.2.2.1 6 _ rfl, h.2.2.1 7 _ rfl, h.2.2.1 8 _ rfl⟩, h.2.2.2 0 _ rfl, h.2.2.2 1 _ rfl, h.2.2.2 2 _ rfl, h.2.2.2 3 _ rfl, h.2.2.2 4 _ rfl, h.2.2.2 5 _ rfl, h.2.2.2 6 _ rfl, h.2.2.2 7 _ rfl, h.2.2.2 8 _ rfl⟩)
                      have lx := hid (xp.out t htm s hsm)
                      have ly := hid (xq.out u hum r hrm)
                      have C14 : Hid (∀ (W : World) (hb : Below wc.heap.size wc W), Calls Try.prog 14 #[.agg #[.int .i64 s.e.op, .int .i64 s.e.bin, .int .u64 s.e.n, .int .i64 s.e.tk, .string s.e.tr, .string s.e.nm, s.e.kv, .int .i64 s.e.line, .int .i64 s.e.col], .agg #[.int .i64 r.e.op, .int .i64 r.e.bin, .int .u64 r.e.n, .int .i64 r.e.tk, .string r.e.tr, .string r.e.nm, r.e.kv, .int .i64 r.e.line, .int .i64 r.e.col]] W fun e w' => e = .returned (.bool (s.e.same r.e)) ∧ Below W.heap.size W w') := hid (fun W hb => sameExpr_any s.e r.e W _ _ (so.out.hd.2.2.2.1.kept hb) (ro.out.hd.2.2.2.1.kept hb))
                      have CP : Hid (∀ (W : World) (hb : Below wc.heap.size wc W), Calls Try.prog 15 #[.agg #[.int .i64 s.e.op, .int .i64 s.e.bin, .int .u64 s.e.n, .int .i64 s.e.tk, .string s.e.tr, .string s.e.nm, s.e.kv, .int .i64 s.e.line, .int .i64 s.e.col]] W fun r' w' => ∃ u', r' = .returned u' ∧ Txts W w' u' s.e.texts) := hid (fun W hb => refExpr_any s.e W _ (so.out.hd.2.2.2.1.kept hb) lx.out)
                      have CQ : Hid (∀ (W : World) (hb : Below wc.heap.size wc W), Calls Try.prog 15 #[.agg #[.int .i64 r.e.op, .int .i64 r.e.bin, .int .u64 r.e.n, .int .i64 r.e.tk, .string r.e.tr, .string r.e.nm, r.e.kv, .int .i64 r.e.line, .int .i64 r.e.col]] W fun r' w' => ∃ u', r' = .returned u' ∧ Txts W w' u' r.e.texts) := hid (fun W hb => refExpr_any r.e W _ (ro.out.hd.2.2.2.1.kept hb) ly.out)
                      have CS := hid (fun (W : World) (v v' : Value) (h1 : strsAt W (fun _ => True) v s.e.texts) (h2 : strsAt W (fun _ => True) v' r.e.texts) => refSame_any _ _ v v' W _ _ h1 h2)
                      rw [exs_same s.e r.e so.out.hd.2.2.2.1 ro.out.hd.2.2.2.1] at CS
                      generalize s.e.same r.e = b at *
                      have bx := c16.out _ Z16.out
                      clear ega egb hga hgb ra rb l0 l1 kk h0 h1 ent enu hs hr
                      go_region_held3 (fun w' => (w'.cell? ⟨wr.heap.size, 0, none⟩ = some (.slice (some ⟨ga, 0, none⟩) nt ca) ∧ w'.cell? ⟨(World.heap wx).size, 0, none⟩ = some (.slice (some ⟨gb, 0, none⟩) nu cb)) ∧ (w'.cell? ⟨ga, 43, none⟩ = some (.int .i64 s.e.op) ∧ w'.cell? ⟨ga, 44, none⟩ = some (.int .i64 s.e.bin) ∧ w'.cell? ⟨ga, 45, none⟩ = some (.int .u64 s.e.n) ∧ w'.cell? ⟨ga, 46, none⟩ = some (.int .i64 s.e.tk) ∧ w'.cell? ⟨ga, 47, none⟩ = some (.string s.e.tr) ∧ w'.cell? ⟨ga, 48, none⟩ = some (.string s.e.nm) ∧ w'.cell? ⟨ga, 49, none⟩ = some s.e.kv ∧ w'.cell? ⟨ga, 50, none⟩ = some (.int .i64 s.e.line) ∧ w'.cell? ⟨ga, 51, none⟩ = some (.int .i64 s.e.col)) ∧ w'.cell? ⟨gb, 43, none⟩ = some (.int .i64 r.e.op) ∧ w'.cell? ⟨gb, 44, none⟩ = some (.int .i64 r.e.bin) ∧ w'.cell? ⟨gb, 45, none⟩ = some (.int .u64 r.e.n) ∧ w'.cell? ⟨gb, 46, none⟩ = some (.int .i64 r.e.tk) ∧ w'.cell? ⟨gb, 47, none⟩ = some (.string r.e.tr) ∧ w'.cell? ⟨gb, 48, none⟩ = some (.string r.e.nm) ∧ w'.cell? ⟨gb, 49, none⟩ = some r.e.kv ∧ w'.cell? ⟨gb, 50, none⟩ = some (.int .i64 r.e.line) ∧ w'.cell? ⟨gb, 51, none⟩ = some (.int .i64 r.e.col))
                        (exact c16.out _ Z16.out)
                        (first
                          | (go_at_call 14; with_reducible refine (C14.out _ (below_drew Bel.out)).mono ?_; rintro r' y1 ⟨rfl, hb⟩; replace Z16 := hid (n16.out _ _ _ Z16.out hb rfl); have bz := c16.out _ Z16.out; replace Bel := hid (bel_step Bel.out hb rfl rfl rfl rfl); clear hb)
                          | (go_at_call 15; with_reducible refine (CP.out _ Bel.out).mono ?_; rintro r' y2 ⟨vA, rfl, hA⟩; have hb := hA.bel; replace Z16 := hid (n16.out _ _ _ Z16.out hb rfl); have bz := c16.out _ Z16.out; replace Bel := hid (bel_step Bel.out hb rfl rfl rfl rfl); have HA := hid (hA.row lx.out); clear hb hA CP)
                          | (go_at_call 15; with_reducible refine (CQ.out _ Bel.out).mono ?_; rintro r' y3 ⟨vB, rfl, hB⟩; have hb := hB.bel; replace Z16 := hid (n16.out _ _ _ Z16.out hb rfl); have bz := c16.out _ Z16.out; replace Bel := hid (bel_step Bel.out hb rfl rfl rfl rfl); have HB := hid (hB.row ly.out); replace HA := hid (HA.out.kept hb); clear hb hB CQ)
                          | (go_at_call 10; with_reducible refine (CS.out _ _ _ HA.out HB.out).mono ?_; rintro r' y4 ⟨rfl, hb⟩; replace Z16 := hid (n16.out _ _ _ Z16.out hb rfl); have bz := c16.out _ Z16.out; replace Bel := hid (bel_step Bel.out hb rfl rfl rfl rfl); clear hb CS))
                      all_goals
                        clear bx bz
                        go_wp2_with fail
                        go_meet
                        case rel => exact ⟨by simp, Bel⟩
                case rest =>
                  obtain ⟨rfl, hy⟩ := hcut
                  replace tx := hid (tx.out.kept hy.out)
                  replace us := hid (us.out.kept hy.out)
                  replace TX := hid (TX.out.kept hy.out)
                  replace T10 := hid (T10.out.kept hy.out)
                  replace hbx := hid (Below.over hbx.out hy.out)
                  clear hy
                  go_upto_region 18 with fail
                  go_cut [139] from 106 to 140 (fun v139 wy => v139 = .bool false ∧ Hid (Below wc.heap.size wc wy))
                  case first =>
                    have Bel : Hid (Below wc.heap.size wc wc) := hid (Below.refl _ _)
                    obtain ⟨nt, ent⟩ : ∃ nt, nt = t.body.length := ⟨_, rfl⟩
                    obtain ⟨nu, enu⟩ : ∃ nu, nu = u.body.length := ⟨_, rfl⟩
                    rw [← ent, ← enu] at kk
                    by_cases hkj : k = j
                    · subst hkj
                      have ekj : ((k : Int) == (k : Int)) = true := by simp
                      by_cases h0 : t.body = []
                      · have h0' : nt = 0 := by rw [ent, h0]; rfl
                        subst h0'
                        obtain ⟨bx1, bx2⟩ := kk.out _ TX.out T10.out
                        clear ent enu kk h0
                        go_quiet (fail)
                        go_wp2_with fail
                        go_meet
                        case rel => exact ⟨rfl, hid ⟨rfl, rfl, rfl, Nat.le_refl _, fun _ _ => rfl⟩⟩
                      · by_cases h1 : u.body = []
                        · have h1' : nu = 0 := by rw [enu, h1]; rfl
                          have l0 : 0 < nt := by
                            have : t.body.length ≠ 0 := by simpa using h0
                            omega
                          have h0' : decide ((nt : Int) > 0) = true := by simp; omega
                          have i0 : (0 : Int) < (nt : Int) := by omega
                          subst h1'
                          obtain ⟨bx1, bx2⟩ := kk.out _ TX.out T10.out
                          clear ent enu kk h0 h1
                          go_quiet (fail)
                          go_wp2_with fail
                          go_meet
                          case rel => exact ⟨rfl, hid ⟨rfl, rfl, rfl, Nat.le_refl _, fun _ _ => rfl⟩⟩
                        · have l0 : t.body.length ≠ 0 := by simpa using h0
                          have l1 : u.body.length ≠ 0 := by simpa using h1
                          have h0' : decide ((nt : Int) > 0) = true := by simp; omega
                          have h1' : decide ((nu : Int) > 0) = true := by simp; omega
                          have i0 : (0 : Int) < (nt : Int) := by omega
                          have i1 : (0 : Int) < (nu : Int) := by omega
                          have j0 : 0 < nt := by omega
                          have j1 : 0 < nu := by omega
                          obtain ⟨s, hs⟩ : ∃ s, t.body[0]? = some s := ⟨_, List.getElem?_eq_getElem (by omega)⟩
                          obtain ⟨r, hr⟩ : ∃ r, u.body[0]? = some r := ⟨_, List.getElem?_eq_getElem (by omega)⟩
                          have hsm := List.mem_of_getElem? hs
                          have hrm := List.mem_of_getElem? hr
                          have t1 := row_first tx.out hs
                          have u1 := row_first us.out hr
                          obtain ⟨ga, capa, ega, -, -, hga⟩ := RowAt.elem St.len tx.out.1 hs
                          obtain ⟨gb, capb, egb, -, -, hgb⟩ := RowAt.elem St.len us.out.1 hr
                          obtain ⟨rfl, -, rfl⟩ := Value.slice.inj ega
                          obtain ⟨rfl, -, rfl⟩ := Value.slice.inj egb
                          have ra : wc.rangeAt ga 0 s.cells := by simpa using hga
                          have rb : wc.rangeAt gb 0 r.cells := by simpa using hgb
                          have so := hid (tx.out.2 s hsm)
                          have ro := hid (us.out.2 r hrm)
                          have ca1 : 1 ≤ ca := t1.1
                          have cb1 : 1 ≤ cb := u1.1
                          have ca2 : (1 : Int) ≤ (ca : Int) := by omega
                          have cb2 : (1 : Int) ≤ (cb : Int) := by omega
                          have ca3 : ¬ ca = 0 := by omega
                          have cb3 : ¬ cb = 0 := by omega
                          have Z18 : Hid (VarAt wc wr.heap.size t.cells 37 ∧ VarAt wc (World.heap wx).size u.cells 37 ∧ wc.rangeAt ga 0 s.cells ∧ wc.rangeAt gb 0 r.cells) := hid ⟨TX.out, T10.out, ra, rb⟩
                          have n18 : Hid (∀ W0 W w' : World, (VarAt W0 wr.heap.size t.cells 37 ∧ VarAt W0 (World.heap wx).size u.cells 37 ∧ W0.rangeAt ga 0 s.cells ∧ W0.rangeAt gb 0 r.cells) → Below W.heap.size W w' → W.heap = W0.heap → (VarAt w' wr.heap.size t.cells 37 ∧ VarAt w' (World.heap wx).size u.cells 37 ∧ w'.rangeAt ga 0 s.cells ∧ w'.rangeAt gb 0 r.cells)) := hid (fun W0 W w' h hb e => ⟨h.1.next hb e, h.2.1.next hb e, rangeAt_next h.2.2.1 hb e, rangeAt_next h.2.2.2 hb e⟩)
                          have c18 : Hid (∀ W : World, (VarAt W wr.heap.size t.cells 37 ∧ VarAt W (World.heap wx).size u.cells 37 ∧ W.rangeAt ga 0 s.cells ∧ W.rangeAt gb 0 r.cells) → (W.cell? ⟨wr.heap.size, 0, none⟩ = some (.slice (some ⟨ga, 0, none⟩) nt ca) ∧ W.cell? ⟨(World.heap wx).size, 0, none⟩ = some (.slice (some ⟨gb, 0, none⟩) nu cb)) ∧ W.rangeAt ga 0 s.cells ∧ W.rangeAt gb 0 r.cells) := hid (fun W h => ⟨kk.out _ h.1 h.2.1, h.2.2⟩)
                          have C16 : Hid (∀ (W : World) (hb : Below wc.heap.size wc W), Calls Try.prog 16 #[.agg s.cells.toArray, .agg r.cells.toArray] W fun e w' => e = .returned (.bool (s.same r)) ∧ Below W.heap.size W w') := hid (fun W hb => sameStmt_any s r W _ _ (so.out.kept hb) (ro.out.kept hb))
                          have C12 : Hid (∀ (W : World) (hb : Below wc.heap.size wc W), Calls Try.prog 12 #[.slice (some ⟨ga, 0, none⟩) 1 ca, .slice (some ⟨gb, 0, none⟩) 1 cb] W fun e w' => e = .returned (.bool (s.same r)) ∧ Below W.heap.size W w') := hid (fun W hb => by
                            have := stmts_any _ _ _ _ W _ _ (t1.2.kept hb) (u1.2.kept hb)
                            rw [show eqL St.same [s] [r] = s.same r by simp [eqL]] at this
                            exact this)
                          have ef16 : Hid (∀ args w, (callFunc 16 args).run Try.prog w = .ok (.enter 16 args) w) := hid (enters_of Try.func16 (by kernel_rfl) rfl)
                          have ef12 : Hid (∀ args w, (callFunc 12 args).run Try.prog w = .ok (.enter 12 args) w) := hid (enters_of Try.func12 (by kernel_rfl) rfl)
                          generalize s.same r = b at *
                          have bx := c18.out _ Z18.out
                          clear ega egb hga hgb ra rb l0 l1 kk h0 h1 ent enu hs hr t1 u1
                          refine wp_region_held_drew (S := (fun w' : World => (w'.cell? ⟨wr.heap.size, 0, none⟩ = some (.slice (some ⟨ga, 0, none⟩) nt ca) ∧ w'.cell? ⟨(World.heap wx).size, 0, none⟩ = some (.slice (some ⟨gb, 0, none⟩) nu cb)) ∧ w'.rangeAt ga 0 s.cells ∧ w'.rangeAt gb 0 r.cells)) (by kernel_rfl) (c18.out _ Z18.out) (fun hHeld => ?_)
                          refine wpAnyH_take (i := 0) (oi := { dst := some 106, op := Op.move (Operand.tmp 7), type := 3, pos := "law.go:38", after := #[], guard := none }) (v := ?_) rfl (by kernel_rfl) (by kernel_rfl) (by kernel_rfl) (fun _ _ _ h => h) (Or.inl ⟨by rfl, ?_⟩) hHeld ?_
                          rotate_left
                          · intro w0 hSw; (try dsimp only at hSw); go_simp; (try with_reducible rfl)
                          simp only [Act.put, List.setIfInBounds_toArray, List.set_cons_zero, List.set_cons_succ]
                          refine wpAnyH_take (i := 1) (oi := { dst := some 107, op := Op.move (Operand.tmp 9), type := 3, pos := "law.go:38", after := #[], guard := none }) (v := ?_) rfl (by kernel_rfl) (by kernel_rfl) (by kernel_rfl) (fun _ _ _ h => h) (Or.inl ⟨by rfl, ?_⟩) hHeld ?_
                          rotate_left
                          · intro w0 hSw; (try dsimp only at hSw); go_simp; (try with_reducible rfl)
                          simp only [Act.put, List.setIfInBounds_toArray, List.set_cons_zero, List.set_cons_succ]
                          refine wpAnyH_take (i := 2) (oi := { dst := some 108, op := Op.binOp BinOp.eql 3 (Operand.tmp 106) (Operand.tmp 107) 3, type := 4, pos := "law.go:38", after := #[{ on := 0, ground := Ground.data }, { on := 1, ground := Ground.data }], guard := none }) (v := ?_) rfl (by kernel_rfl) (by kernel_rfl) (by kernel_rfl) (fun _ _ _ h => h) (Or.inl ⟨by rfl, ?_⟩) hHeld ?_
                          rotate_left
                          · intro w0 hSw; (try dsimp only at hSw); go_simp; (try with_reducible rfl)
                          simp only [Act.put, List.setIfInBounds_toArray, List.set_cons_zero, List.set_cons_succ]
                          refine wpAnyH_take (i := 3) (oi := { dst := some 109, op := Op.move (Operand.tmp 108), type := 4, pos := "law.go:38", after := #[{ on := 2, ground := Ground.data }], guard := none }) (v := ?_) rfl (by kernel_rfl) (by kernel_rfl) (by kernel_rfl) (fun _ _ _ h => h) (Or.inl ⟨by rfl, ?_⟩) hHeld ?_
                          rotate_left
                          · intro w0 hSw; (try dsimp only at hSw); go_simp; (try with_reducible rfl)
                          simp only [Act.put, List.setIfInBounds_toArray, List.set_cons_zero, List.set_cons_succ]
                          refine wpAnyH_take (i := 4) (oi := { dst := some 110, op := Op.fieldAddr 37 (Operand.tmp 8) 0, type := 0, pos := "law.go:38", after := #[{ on := 3, ground := Ground.guard }], guard := some (3, true) }) (v := ?_) rfl (by kernel_rfl) (by kernel_rfl) (by kernel_rfl) (fun _ _ _ h => h) (Or.inl ⟨by rfl, ?_⟩) hHeld ?_
                          rotate_left
                          · intro w0 hSw; (try dsimp only at hSw); go_simp; (try with_reducible rfl)
                          simp only [Act.put, List.setIfInBounds_toArray, List.set_cons_zero, List.set_cons_succ]
                          refine wpAnyH_take (i := 5) (oi := { dst := some 111, op := Op.load 35 (Operand.tmp 110), type := 35, pos := "law.go:38", after := #[{ on := 4, ground := Ground.data }, { on := 3, ground := Ground.guard }], guard := some (3, true) }) (v := ?_) rfl (by kernel_rfl) (by kernel_rfl) (by kernel_rfl) (fun _ _ _ h => h) (Or.inl ⟨by rfl, ?_⟩) hHeld ?_
                          rotate_left
                          · intro w0 hSw; (try dsimp only at hSw); go_simp; (try with_reducible rfl)
                          simp only [Act.put, List.setIfInBounds_toArray, List.set_cons_zero, List.set_cons_succ]
                          refine wpAnyH_take (i := 6) (oi := { dst := some 112, op := Op.call { callee := Callee.builtin Builtin.len, args := #[Operand.tmp 111], argTypes := #[35] }, type := 3, pos := "law.go:38", after := #[{ on := 5, ground := Ground.data }, { on := 3, ground := Ground.guard }], guard := some (3, true) }) (v := ?_) rfl (by kernel_rfl) (by kernel_rfl) (by kernel_rfl) (fun _ _ _ h => h) (Or.inl ⟨by rfl, ?_⟩) hHeld ?_
                          rotate_left
                          · intro w0 hSw; (try dsimp only at hSw); go_simp; (try with_reducible rfl)
                          simp only [Act.put, List.setIfInBounds_toArray, List.set_cons_zero, List.set_cons_succ]
                          refine wpAnyH_take (i := 7) (oi := { dst := some 113, op := Op.binOp BinOp.gtr 3 (Operand.tmp 112) (Operand.const (Value.int IntKind.i64 0)) 3, type := 4, pos := "law.go:38", after := #[{ on := 6, ground := Ground.data }, { on := 3, ground := Ground.guard }], guard := some (3, true) }) (v := ?_) rfl (by kernel_rfl) (by kernel_rfl) (by kernel_rfl) (fun _ _ _ h => h) (Or.inl ⟨by rfl, ?_⟩) hHeld ?_
                          rotate_left
                          · intro w0 hSw; (try dsimp only at hSw); go_simp; (try with_reducible rfl)
                          simp only [Act.put, List.setIfInBounds_toArray, List.set_cons_zero, List.set_cons_succ]
                          refine wpAnyH_take (i := 8) (oi := { dst := some 114, op := Op.pick (Operand.tmp 109) (Operand.tmp 113) (Operand.const (Value.bool false)), type := 4, pos := "law.go:38", after := #[{ on := 3, ground := Ground.data }, { on := 7, ground := Ground.data }], guard := none }) (v := ?_) rfl (by kernel_rfl) (by kernel_rfl) (by kernel_rfl) (fun _ _ _ h => h) (Or.inl ⟨by rfl, ?_⟩) hHeld ?_
                          rotate_left
                          · intro w0 hSw; (try dsimp only at hSw); go_simp; (try with_reducible rfl)
                          simp only [Act.put, List.setIfInBounds_toArray, List.set_cons_zero, List.set_cons_succ]
                          refine wpAnyH_take (i := 9) (oi := { dst := some 115, op := Op.move (Operand.tmp 114), type := 4, pos := "law.go:38", after := #[{ on := 8, ground := Ground.data }, { on := 3, ground := Ground.chain }], guard := none }) (v := ?_) rfl (by kernel_rfl) (by kernel_rfl) (by kernel_rfl) (fun _ _ _ h => h) (Or.inl ⟨by rfl, ?_⟩) hHeld ?_
                          rotate_left
                          · intro w0 hSw; (try dsimp only at hSw); go_simp; (try with_reducible rfl)
                          simp only [Act.put, List.setIfInBounds_toArray, List.set_cons_zero, List.set_cons_succ]
                          refine wpAnyH_take (i := 10) (oi := { dst := some 116, op := Op.fieldAddr 37 (Operand.tmp 10) 0, type := 0, pos := "law.go:38", after := #[{ on := 9, ground := Ground.guard }], guard := some (9, true) }) (v := ?_) rfl (by kernel_rfl) (by kernel_rfl) (by kernel_rfl) (fun _ _ _ h => h) (Or.inl ⟨by rfl, ?_⟩) hHeld ?_
                          rotate_left
                          · intro w0 hSw; (try dsimp only at hSw); go_simp; (try with_reducible rfl)
                          simp only [Act.put, List.setIfInBounds_toArray, List.set_cons_zero, List.set_cons_succ]
                          refine wpAnyH_take (i := 11) (oi := { dst := some 117, op := Op.load 35 (Operand.tmp 116), type := 35, pos := "law.go:38", after := #[{ on := 10, ground := Ground.data }, { on := 9, ground := Ground.guard }], guard := some (9, true) }) (v := ?_) rfl (by kernel_rfl) (by kernel_rfl) (by kernel_rfl) (fun _ _ _ h => h) (Or.inl ⟨by rfl, ?_⟩) hHeld ?_
                          rotate_left
                          · intro w0 hSw; (try dsimp only at hSw); go_simp; (try with_reducible rfl)
                          simp only [Act.put, List.setIfInBounds_toArray, List.set_cons_zero, List.set_cons_succ]
                          refine wpAnyH_take (i := 12) (oi := { dst := some 118, op := Op.call { callee := Callee.builtin Builtin.len, args := #[Operand.tmp 117], argTypes := #[35] }, type := 3, pos := "law.go:38", after := #[{ on := 11, ground := Ground.data }, { on := 9, ground := Ground.guard }], guard := some (9, true) }) (v := ?_) rfl (by kernel_rfl) (by kernel_rfl) (by kernel_rfl) (fun _ _ _ h => h) (Or.inl ⟨by rfl, ?_⟩) hHeld ?_
                          rotate_left
                          · intro w0 hSw; (try dsimp only at hSw); go_simp; (try with_reducible rfl)
                          simp only [Act.put, List.setIfInBounds_toArray, List.set_cons_zero, List.set_cons_succ]
                          refine wpAnyH_take (i := 13) (oi := { dst := some 119, op := Op.binOp BinOp.gtr 3 (Operand.tmp 118) (Operand.const (Value.int IntKind.i64 0)) 3, type := 4, pos := "law.go:38", after := #[{ on := 12, ground := Ground.data }, { on := 9, ground := Ground.guard }], guard := some (9, true) }) (v := ?_) rfl (by kernel_rfl) (by kernel_rfl) (by kernel_rfl) (fun _ _ _ h => h) (Or.inl ⟨by rfl, ?_⟩) hHeld ?_
                          rotate_left
                          · intro w0 hSw; (try dsimp only at hSw); go_simp; (try with_reducible rfl)
                          simp only [Act.put, List.setIfInBounds_toArray, List.set_cons_zero, List.set_cons_succ]
                          refine wpAnyH_take (i := 14) (oi := { dst := some 120, op := Op.pick (Operand.tmp 115) (Operand.tmp 119) (Operand.const (Value.bool false)), type := 4, pos := "law.go:38", after := #[{ on := 9, ground := Ground.data }, { on := 13, ground := Ground.data }], guard := none }) (v := ?_) rfl (by kernel_rfl) (by kernel_rfl) (by kernel_rfl) (fun _ _ _ h => h) (Or.inl ⟨by rfl, ?_⟩) hHeld ?_
                          rotate_left
                          · intro w0 hSw; (try dsimp only at hSw); go_simp; (try with_reducible rfl)
                          simp only [Act.put, List.setIfInBounds_toArray, List.set_cons_zero, List.set_cons_succ]
                          refine wpAnyH_take (i := 15) (oi := { dst := some 121, op := Op.move (Operand.tmp 120), type := 4, pos := "law.go:38", after := #[{ on := 14, ground := Ground.data }, { on := 9, ground := Ground.chain }], guard := none }) (v := ?_) rfl (by kernel_rfl) (by kernel_rfl) (by kernel_rfl) (fun _ _ _ h => h) (Or.inl ⟨by rfl, ?_⟩) hHeld ?_
                          rotate_left
                          · intro w0 hSw; (try dsimp only at hSw); go_simp; (try with_reducible rfl)
                          simp only [Act.put, List.setIfInBounds_toArray, List.set_cons_zero, List.set_cons_succ]
                          refine wpAnyH_take (i := 16) (oi := { dst := some 122, op := Op.fieldAddr 37 (Operand.tmp 8) 0, type := 0, pos := "law.go:38", after := #[{ on := 15, ground := Ground.guard }], guard := some (15, true) }) (v := ?_) rfl (by kernel_rfl) (by kernel_rfl) (by kernel_rfl) (fun _ _ _ h => h) (Or.inl ⟨by rfl, ?_⟩) hHeld ?_
                          rotate_left
                          · intro w0 hSw; (try dsimp only at hSw); go_simp; (try with_reducible rfl)
                          simp only [Act.put, List.setIfInBounds_toArray, List.set_cons_zero, List.set_cons_succ]
                          refine wpAnyH_take (i := 17) (oi := { dst := some 123, op := Op.load 35 (Operand.tmp 122), type := 35, pos := "law.go:38", after := #[{ on := 16, ground := Ground.data }, { on := 15, ground := Ground.guard }], guard := some (15, true) }) (v := ?_) rfl (by kernel_rfl) (by kernel_rfl) (by kernel_rfl) (fun _ _ _ h => h) (Or.inl ⟨by rfl, ?_⟩) hHeld ?_
                          rotate_left
                          · intro w0 hSw; (try dsimp only at hSw); go_simp; (try with_reducible rfl)
                          simp only [Act.put, List.setIfInBounds_toArray, List.set_cons_zero, List.set_cons_succ]
                          refine wpAnyH_take (i := 18) (oi := { dst := some 124, op := Op.indexAddr 35 (Operand.tmp 123) (Operand.const (Value.int IntKind.i64 0)), type := 0, pos := "law.go:38", after := #[{ on := 17, ground := Ground.data }, { on := 15, ground := Ground.guard }], guard := some (15, true) }) (v := ?_) rfl (by kernel_rfl) (by kernel_rfl) (by kernel_rfl) (fun _ _ _ h => h) (Or.inl ⟨by rfl, ?_⟩) hHeld ?_
                          rotate_left
                          · intro w0 hSw; (try dsimp only at hSw); go_simp; (try with_reducible rfl)
                          simp only [Act.put, List.setIfInBounds_toArray, List.set_cons_zero, List.set_cons_succ]
                          refine wpAnyH_take (i := 19) (oi := { dst := some 125, op := Op.load 52 (Operand.tmp 124), type := 52, pos := "law.go:38", after := #[{ on := 18, ground := Ground.data }, { on := 15, ground := Ground.guard }], guard := some (15, true) }) rfl (by kernel_rfl) (by kernel_rfl) (by kernel_rfl) (fun _ _ _ h => h) (yieldsIf_load_mid (by rfl) 52 _ rfl ga 0 rfl s.cells _ (fun w0 hSw => hSw.2.1) Try.underlying52 rfl agg52z) hHeld ?_
                          simp only [Act.put, List.setIfInBounds_toArray, List.set_cons_zero, List.set_cons_succ]
                          refine wpAnyH_take (i := 20) (oi := { dst := some 126, op := Op.fieldAddr 37 (Operand.tmp 10) 0, type := 0, pos := "law.go:38", after := #[{ on := 15, ground := Ground.guard }], guard := some (15, true) }) (v := ?_) rfl (by kernel_rfl) (by kernel_rfl) (by kernel_rfl) (fun _ _ _ h => h) (Or.inl ⟨by rfl, ?_⟩) hHeld ?_
                          rotate_left
                          · intro w0 hSw; (try dsimp only at hSw); go_simp; (try with_reducible rfl)
                          simp only [Act.put, List.setIfInBounds_toArray, List.set_cons_zero, List.set_cons_succ]
                          refine wpAnyH_take (i := 21) (oi := { dst := some 127, op := Op.load 35 (Operand.tmp 126), type := 35, pos := "law.go:38", after := #[{ on := 20, ground := Ground.data }, { on := 15, ground := Ground.guard }], guard := some (15, true) }) (v := ?_) rfl (by kernel_rfl) (by kernel_rfl) (by kernel_rfl) (fun _ _ _ h => h) (Or.inl ⟨by rfl, ?_⟩) hHeld ?_
                          rotate_left
                          · intro w0 hSw; (try dsimp only at hSw); go_simp; (try with_reducible rfl)
                          simp only [Act.put, List.setIfInBounds_toArray, List.set_cons_zero, List.set_cons_succ]
                          refine wpAnyH_take (i := 22) (oi := { dst := some 128, op := Op.indexAddr 35 (Operand.tmp 127) (Operand.const (Value.int IntKind.i64 0)), type := 0, pos := "law.go:38", after := #[{ on := 21, ground := Ground.data }, { on := 15, ground := Ground.guard }], guard := some (15, true) }) (v := ?_) rfl (by kernel_rfl) (by kernel_rfl) (by kernel_rfl) (fun _ _ _ h => h) (Or.inl ⟨by rfl, ?_⟩) hHeld ?_
                          rotate_left
                          · intro w0 hSw; (try dsimp only at hSw); go_simp; (try with_reducible rfl)
                          simp only [Act.put, List.setIfInBounds_toArray, List.set_cons_zero, List.set_cons_succ]
                          refine wpAnyH_take (i := 23) (oi := { dst := some 129, op := Op.load 52 (Operand.tmp 128), type := 52, pos := "law.go:38", after := #[{ on := 22, ground := Ground.data }, { on := 15, ground := Ground.guard }], guard := some (15, true) }) rfl (by kernel_rfl) (by kernel_rfl) (by kernel_rfl) (fun _ _ _ h => h) (yieldsIf_load_mid (by rfl) 52 _ rfl gb 0 rfl r.cells _ (fun w0 hSw => hSw.2.2) Try.underlying52 rfl agg52z) hHeld ?_
                          simp only [Act.put, List.setIfInBounds_toArray, List.set_cons_zero, List.set_cons_succ]
                          refine wpAnyH_take (i := 25) (oi := { dst := some 131, op := Op.fieldAddr 37 (Operand.tmp 8) 0, type := 0, pos := "law.go:38", after := #[{ on := 15, ground := Ground.guard }], guard := some (15, true) }) (v := ?_) rfl (by kernel_rfl) (by kernel_rfl) (by kernel_rfl) (fun _ _ _ h => h) (Or.inl ⟨by rfl, ?_⟩) hHeld ?_
                          rotate_left
                          · intro w0 hSw; (try dsimp only at hSw); go_simp; (try with_reducible rfl)
                          simp only [Act.put, List.setIfInBounds_toArray, List.set_cons_zero, List.set_cons_succ]
                          refine wpAnyH_take (i := 26) (oi := { dst := some 132, op := Op.load 35 (Operand.tmp 131), type := 35, pos := "law.go:38", after := #[{ on := 25, ground := Ground.data }, { on := 15, ground := Ground.guard }], guard := some (15, true) }) (v := ?_) rfl (by kernel_rfl) (by kernel_rfl) (by kernel_rfl) (fun _ _ _ h => h) (Or.inl ⟨by rfl, ?_⟩) hHeld ?_
                          rotate_left
                          · intro w0 hSw; (try dsimp only at hSw); go_simp; (try with_reducible rfl)
                          simp only [Act.put, List.setIfInBounds_toArray, List.set_cons_zero, List.set_cons_succ]
                          refine wpAnyH_take (i := 27) (oi := { dst := some 133, op := Op.slice 35 (Operand.tmp 132) none (some (Operand.const (Value.int IntKind.i64 1))) none, type := 35, pos := "law.go:38", after := #[{ on := 26, ground := Ground.data }, { on := 15, ground := Ground.guard }], guard := some (15, true) }) (v := ?_) rfl (by kernel_rfl) (by kernel_rfl) (by kernel_rfl) (fun _ _ _ h => h) (Or.inl ⟨by rfl, ?_⟩) hHeld ?_
                          rotate_left
                          · intro w0 hSw; (try dsimp only at hSw); go_simp; (try with_reducible rfl)
                          simp only [Act.put, List.setIfInBounds_toArray, List.set_cons_zero, List.set_cons_succ]
                          refine wpAnyH_take (i := 28) (oi := { dst := some 134, op := Op.fieldAddr 37 (Operand.tmp 10) 0, type := 0, pos := "law.go:38", after := #[{ on := 15, ground := Ground.guard }], guard := some (15, true) }) (v := ?_) rfl (by kernel_rfl) (by kernel_rfl) (by kernel_rfl) (fun _ _ _ h => h) (Or.inl ⟨by rfl, ?_⟩) hHeld ?_
                          rotate_left
                          · intro w0 hSw; (try dsimp only at hSw); go_simp; (try with_reducible rfl)
                          simp only [Act.put, List.setIfInBounds_toArray, List.set_cons_zero, List.set_cons_succ]
                          refine wpAnyH_take (i := 29) (oi := { dst := some 135, op := Op.load 35 (Operand.tmp 134), type := 35, pos := "law.go:38", after := #[{ on := 28, ground := Ground.data }, { on := 15, ground := Ground.guard }], guard := some (15, true) }) (v := ?_) rfl (by kernel_rfl) (by kernel_rfl) (by kernel_rfl) (fun _ _ _ h => h) (Or.inl ⟨by rfl, ?_⟩) hHeld ?_
                          rotate_left
                          · intro w0 hSw; (try dsimp only at hSw); go_simp; (try with_reducible rfl)
                          simp only [Act.put, List.setIfInBounds_toArray, List.set_cons_zero, List.set_cons_succ]
                          refine wpAnyH_take (i := 30) (oi := { dst := some 136, op := Op.slice 35 (Operand.tmp 135) none (some (Operand.const (Value.int IntKind.i64 1))) none, type := 35, pos := "law.go:38", after := #[{ on := 29, ground := Ground.data }, { on := 15, ground := Ground.guard }], guard := some (15, true) }) (v := ?_) rfl (by kernel_rfl) (by kernel_rfl) (by kernel_rfl) (fun _ _ _ h => h) (Or.inl ⟨by rfl, ?_⟩) hHeld ?_
                          rotate_left
                          · intro w0 hSw; (try dsimp only at hSw); go_simp; (try with_reducible rfl)
                          simp only [Act.put, List.setIfInBounds_toArray, List.set_cons_zero, List.set_cons_succ]
                          refine wpAnyH_ready (rs := [24]) (by kernel_rfl) (by simp) ?_
                          refine AllReadyH.cons (o := { dst := some 130, op := Op.call { callee := Callee.value (Operand.func 16), args := #[Operand.tmp 125, Operand.tmp 129], argTypes := #[52, 52] }, type := 4, pos := "law.go:38", after := #[{ on := 19, ground := Ground.data }, { on := 23, ground := Ground.data }, { on := 15, ground := Ground.chain }, { on := 15, ground := Ground.guard }], guard := some (15, true) }) rfl (fun K' hK' => ?_) AllReadyH.nil
                          refine step_callW 16 ef16.out (by rfl) _ _ _ (by rfl) (.agg s.cells.toArray) (.agg r.cells.toArray) (by rfl) (by rfl) (C16.out _ (below_drew Bel.out)) ?_
                          rintro r' y24 ⟨rfl, hb⟩
                          replace Z18 := hid (n18.out _ _ _ Z18.out hb rfl)
                          replace Bel := hid (bel_step Bel.out hb rfl rfl rfl rfl)
                          refine hK'.out _ _ (c18.out _ Z18.out) (fun hHeld2 => ?_)
                          clear hHeld hK' K' hb
                          simp only [Act.put, List.setIfInBounds_toArray, List.set_cons_zero, List.set_cons_succ]
                          refine wpAnyH_ready (rs := [31]) (by kernel_rfl) (by simp) ?_
                          refine AllReadyH.cons (o := { dst := some 137, op := Op.call { callee := Callee.value (Operand.func 12), args := #[Operand.tmp 133, Operand.tmp 136], argTypes := #[35, 35] }, type := 4, pos := "law.go:38", after := #[{ on := 27, ground := Ground.data }, { on := 30, ground := Ground.data }, { on := 24, ground := Ground.chain }, { on := 15, ground := Ground.guard }], guard := some (15, true) }) rfl (fun K' hK' => ?_) AllReadyH.nil
                          refine step_callW 12 ef12.out (by rfl) _ _ _ (by rfl) (.slice (some ⟨ga, 0, none⟩) 1 ca) (.slice (some ⟨gb, 0, none⟩) 1 cb) (by rfl) (by rfl) (C12.out _ Bel.out) ?_
                          rintro r' y31 ⟨rfl, hb⟩
                          replace Z18 := hid (n18.out _ _ _ Z18.out hb rfl)
                          replace Bel := hid (bel_step Bel.out hb rfl rfl rfl rfl)
                          refine hK'.out _ _ (c18.out _ Z18.out) (fun hHeld => ?_)
                          clear hHeld2 hK' K' hb
                          simp only [Act.put, List.setIfInBounds_toArray, List.set_cons_zero, List.set_cons_succ]
                          refine wpAnyH_take (i := 32) (oi := { dst := some 138, op := Op.binOp BinOp.neq 4 (Operand.tmp 130) (Operand.tmp 137) 4, type := 4, pos := "law.go:38", after := #[{ on := 24, ground := Ground.data }, { on := 31, ground := Ground.data }, { on := 15, ground := Ground.guard }], guard := some (15, true) }) (v := ?_) rfl (by kernel_rfl) (by kernel_rfl) (by kernel_rfl) (fun _ _ _ h => h) (Or.inl ⟨by rfl, ?_⟩) hHeld ?_
                          rotate_left
                          · intro w0 hSw; (try dsimp only at hSw); go_simp; (try with_reducible rfl)
                          simp only [Act.put, List.setIfInBounds_toArray, List.set_cons_zero, List.set_cons_succ]
                          refine wpAnyH_take (i := 33) (oi := { dst := some 139, op := Op.pick (Operand.tmp 121) (Operand.tmp 138) (Operand.const (Value.bool false)), type := 4, pos := "law.go:38", after := #[{ on := 15, ground := Ground.data }, { on := 32, ground := Ground.data }], guard := none }) (v := ?_) rfl (by kernel_rfl) (by kernel_rfl) (by kernel_rfl) (fun _ _ _ h => h) (Or.inl ⟨by rfl, ?_⟩) hHeld ?_
                          rotate_left
                          · intro w0 hSw; (try dsimp only at hSw); go_simp; (try with_reducible rfl)
                          simp only [Act.put, List.setIfInBounds_toArray, List.set_cons_zero, List.set_cons_succ]
                          refine wpAnyH_done (by kernel_rfl) ?_ _
                          clear hHeld bx
                          go_wp2_with fail
                          go_meet
                          case rel => exact ⟨by simp, Bel⟩
                    · have ekj : ((k : Int) == (j : Int)) = false := by
                        rw [beq_eq_false_iff_ne]
                        omega
                      obtain ⟨bx1, bx2⟩ := kk.out _ TX.out T10.out
                      clear ent enu kk
                      go_quiet (fail)
                      go_wp2_with fail
                      go_meet
                      case rel => exact ⟨rfl, hid ⟨rfl, rfl, rfl, Nat.le_refl _, fun _ _ => rfl⟩⟩
                  case rest =>
                    obtain ⟨rfl, hy⟩ := hcut
                    go_wp2_with fail
                    go_roundw
                    case rel => exact ⟨j + 1, by omega, by go_num, hid (Below.over hbx.out hy.out)⟩
                    case measure => simp [intOf]; omega
            · go_wp2_with fail
              go_roundw
              case rel => exact ⟨k + 1, by omega, by go_num, hid (Below.over hat.out hax.out)⟩
              case measure => simp [intOf]; omega
        · go_wp2_with fail
          go_ret
          exact ⟨rfl, Below.over B8.out hat.out⟩
  · have g3 : N.length ≤ 400 → ¬ M.length ≤ 400 := fun h k => hf ⟨h, k⟩
    by_cases hf1 : N.length ≤ 400
    · have g1 : decide ((N.length : Int) > 400) = false := by simp; omega
      have g2 : decide ((M.length : Int) > 400) = true := by have := g3 hf1; simp; omega
      go_wp2_with fail
      go_ret
      exact ⟨rfl, hba.out⟩
    · have g1 : decide ((N.length : Int) > 400) = true := by simp; omega
      go_wp2_with fail
      go_ret
      exact ⟨rfl, hba.out⟩
end Go.Proofs.Ytfdfeiempeciiaa
