/- The contracts of the document's named and Program. -/
import Derived.Test.YtfdfeiempeciiaaRefStmts
import Derived.Test.YtfdfeiempeciiaaSamePg
namespace Go.Proofs.Ytfdfeiempeciiaa
open Go.ChangeShapes Go.WideShapes Go.ChangeAt Go.RowKit
set_option linter.unusedVariables false


def Nm.hd3 (n : Nm) : List ByteArray := [n.nm, txt n.tk, n.tr]
theorem Nm.agg (e : Nm) : AggT 82 e.cells.length := agg82
theorem Rc.agg (e : Rc) : AggT 76 e.cells.length := agg76
theorem Fn.agg (e : Fn) : AggT 58 e.cells.length := agg58
theorem Th.agg (e : Th) : AggT 37 e.cells.length := agg37
theorem boxN_of {W : World} {B : Nat} {s : Nm} (h : VarAt W B s.cells 82) : W.cell? ⟨B, 0, none⟩ = some (.string s.nm) ∧ W.cell? ⟨B, 1, none⟩ = some (.int .i64 s.tk) ∧ W.cell? ⟨B, 2, none⟩ = some (.string s.tr) := ⟨h.cell 0 rfl, h.cell 1 rfl, h.cell 2 rfl⟩

set_option maxRecDepth 100000 in
set_option maxHeartbeats 4000000 in
theorem refNamed_any (l : List Nm) (v : Value) (w : World) (F : Nat → Prop) (hv : nmsOk w F v l) (hlen : (namedT l).length ≤ 2000000) : Calls Try.prog 35 #[v] w fun r w' => ∃ u, r = .returned u ∧ Txts w w' u (namedT l) := by
  obtain ⟨p, c, rfl⟩ := hv.1.form
  have hn47 := hv.1.1.2
  have T := fun n W => text_any n W
  have el : Hid (namedT l = [txt l.length] ++ l.flatMap Nm.hd3) := hid rfl
  rw [el.out] at hlen
  simp only [List.length_append, List.length_cons, List.length_nil] at hlen
  replace hv := hid hv
  go_enter Try.func35, Try.ntmps35
  go_wp2_with fail
  refine (T _ _).mono ?_
  rintro r w1 ⟨rfl, hb⟩
  replace hb := hid hb
  have A : Hid (Txts w (w1.alloc (.cells #[.string (txt l.length)] 9)) (.slice (some ⟨w1.heap.size, 0, none⟩) 1 1) [txt l.length]) := hid (Txts.made (w := w) [txt l.length] hb.out (by simp))
  go_wp2_with fail
  go_loopw [3, 12] (fun vo vi wr => ∃ (k : Nat) (pv : Option Addr) (n cv : Nat) (L : List ByteArray), k ≤ l.length ∧ vi = .int .i64 k ∧ vo = .slice pv n cv ∧ Hid (Txts w wr (.slice pv n cv) L ∧ L = [txt l.length] ++ (l.take k).flatMap Nm.hd3)) (fun _ vi _ => l.length - (intOf vi).toNat)
  case atStart => exact ⟨0, _, _, _, [txt l.length], Nat.zero_le _, rfl, rfl, hid ⟨A.out, by simp⟩⟩
  case round =>
    obtain ⟨k, pv, n, cv, L, hk, rfl, rfl, hat⟩ := hrel
    clear A hb
    by_cases hlt : k < l.length
    · obtain ⟨s, hs⟩ : ∃ s, l[k]? = some s := ⟨_, List.getElem?_eq_getElem hlt⟩
      obtain ⟨g, cap, eg, hF, hgl, hrg⟩ := RowAt.elem Nm.len hv.out.1 hs
      obtain ⟨rfl, -, rfl⟩ := Value.slice.inj eg
      clear eg
      have rg := hid (rangeAt_kept hrg hat.out.1.bel)
      have hk0 : (0 : Int) ≤ (k : Int) := Int.natCast_nonneg _
      have hk1 : (k : Int) < (l.length : Int) := by omega
      have ht1 := take_len Nm.hd3 l k s hs
      have ht2 := hid (take_flat Nm.hd3 l k s hs)
      have b3 : Hid (s.hd3.length ≤ 1000) := hid (by simp [Nm.hd3])
      have s3 : Hid (L.length + s.hd3.length ≤ 2000000) := hid (by rw [hat.out.2]; simp only [List.length_append, List.length_cons, List.length_nil]; omega)
      have hL0 := hid hat.out.2
      have Y : Hid (Beside w (wr.alloc (.cells s.cells.toArray 82)) (.slice pv n cv) L wr.heap.size s.cells 82) := hid ⟨hat.out.1.keep ((Below.refl _ _).alloc (Nat.le_refl _) _), VarAt.new wr s.cells 82, fun e => by have := own_lt hat.out.1.own e; omega⟩
      have bx := boxN_of Y.out.box
      obtain ⟨c0, c1, c2⟩ := bx
      have Bel : Hid (Below (wr.alloc (.cells s.cells.toArray 82)).heap.size (wr.alloc (.cells s.cells.toArray 82)) (wr.alloc (.cells s.cells.toArray 82))) := hid (Below.refl _ _)
      clear hrg ht1 hat
      go_upto_region 5 with (first
        | refine wl_load 82 _ rfl rfl g (k * 5) rfl s.cells rg.out s.agg ?_
        | refine wl_store_new 82 _ _ rfl rfl wr 82 _ rfl wr.heap.size rfl rfl s.cells rfl s.agg rfl (Nm.one' s) ?_)
      go_region_held3 (fun w' => w'.cell? ⟨wr.heap.size, 0, none⟩ = some (.string s.nm) ∧ w'.cell? ⟨wr.heap.size, 1, none⟩ = some (.int .i64 s.tk) ∧ w'.cell? ⟨wr.heap.size, 2, none⟩ = some (.string s.tr))
        (first | go_keep | exact boxN_of Y.out.box | exact boxN_of (Y.out.keep ((Below.refl _ _).alloc (Nat.le_refl _) _)).box)
        (first
          | (go_at_call 34; refine (T _ _).mono ?_; rintro r y1 ⟨rfl, hb⟩; replace Y := hid (Y.out.keep ⟨hb.os, hb.tape, hb.output, hb.size, hb.block⟩); have bx := boxN_of Y.out.box; replace Bel := hid (bel_step Bel.out hb rfl rfl rfl rfl); clear hb)
          | (refine step_app2 (by rfl) _ _ (by rfl) _ (by rfl) L (Y.out.keep ((Below.refl _ _).alloc (Nat.le_refl _) _)).txts _ (by rfl) (fun _ => True) s.hd3 ((Txts.made s.hd3 Bel.out b3.out).row (by have := b3.out; omega)) s3.out ?_; intro p1 c1' y2 n1 L1 hL1 hn1 hg1; replace Y := hid ((Y.out.keep ((Below.refl _ _).alloc (Nat.le_refl _) _)).grew hn1.out hg1.out); have bx := boxN_of Y.out.box; clear hn1 hg1))
      all_goals
        clear bx c0 c1 c2 Bel
        go_wp2_with fail
        go_roundw
        case rel => exact ⟨k + 1, p1, n1, c1', L1, by omega, by go_num, rfl, hid ⟨Y.out.txts, by rw [hL1.out, hL0.out, ht2.out]; simp only [List.append_assoc]⟩⟩
        case measure => simp [intOf]; omega
    · have hkl : l.take k = l := List.take_of_length_le (by omega)
      rw [hkl] at hat
      go_wp2_with fail
      go_ret
      exact ⟨_, rfl, by rw [el.out, ← hat.out.2]; exact hat.out.1⟩

def Pg.hd3 (p : Pg) : List ByteArray := [txt p.recs.length, txt p.funs.length, txt p.threads.length]
theorem Pg.texts3 (p : Pg) : p.texts = p.hd3 ++ (p.recs.flatMap Rc.texts ++ (namedT p.globs ++ (p.funs.flatMap Fn.texts ++ p.threads.flatMap Th.texts))) := rfl
theorem box2_of {W : World} {B : Nat} {cs : List Value} {t : TypeId} (h : VarAt W B cs t) {a b : Value} (ha : cs[0]? = some a) (hb : cs[1]? = some b) : W.cell? ⟨B, 0, none⟩ = some a ∧ W.cell? ⟨B, 1, none⟩ = some b := ⟨h.cell 0 ha, h.cell 1 hb⟩
theorem box3_of {W : World} {B : Nat} {cs : List Value} {t : TypeId} (h : VarAt W B cs t) {a b c : Value} (ha : cs[0]? = some a) (hb : cs[1]? = some b) (hc : cs[2]? = some c) : W.cell? ⟨B, 0, none⟩ = some a ∧ W.cell? ⟨B, 1, none⟩ = some b ∧ W.cell? ⟨B, 2, none⟩ = some c := ⟨h.cell 0 ha, h.cell 1 hb, h.cell 2 hc⟩
theorem Beside.alloc {w wr : World} {v : Value} {l : List ByteArray} {b : Nat} {cs : List Value} {t : TypeId} (h : Beside w wr v l b cs t) (o : Obj) : Beside w (wr.alloc o) v l b cs t := h.keep ((Below.refl _ _).alloc (Nat.le_refl _) o)
theorem Beside.drew {w wr : World} {v : Value} {l : List ByteArray} {b : Nat} {cs : List Value} {t : TypeId} (h : Beside w wr v l b cs t) : Beside w wr.drew v l b cs t := ⟨⟨h.txts.own, below_drew h.txts.bel⟩, h.box, h.far⟩
theorem Th.ok.form {w : World} {F : Nat → Prop} {t : Th} (h : t.ok w F) : ∃ p c, t.bv = .slice p t.body.length c := h.1.form
theorem Txts.box {w wr : World} {v : Value} {l : List ByteArray} (h : Txts w wr v l) (cs : List Value) (t : TypeId) : Beside w (wr.alloc (.cells cs.toArray t)) v l wr.heap.size cs t :=
  ⟨h.keep ((Below.refl _ _).alloc (Nat.le_refl _) _), VarAt.new wr cs t, fun e => by have := own_lt h.own e; omega⟩

set_option maxRecDepth 100000 in
set_option maxHeartbeats 4000000 in
theorem refProgram_any (p : Pg) (w : World) (F : Nat → Prop) (h : p.ok w F) (hlen : p.texts.length ≤ 2000000) : Calls Try.prog 11 #[p.val] w fun r w' => ∃ u, r = .returned u ∧ Txts w w' u p.texts := by
  have T := fun n W => text_any n W
  have et := hid (Pg.texts3 p)
  rw [et.out] at hlen
  simp only [List.length_append] at hlen
  obtain ⟨pr, cr, er⟩ := h.1.1.form
  obtain ⟨pg, cg, eg⟩ := h.2.1.1.form
  obtain ⟨pf, cf, ef⟩ := h.2.2.1.1.form
  obtain ⟨pt, ct, eth⟩ := h.2.2.2.1.form
  have nr := h.1.1.1.2
  have ng := h.2.1.1.1.2
  have nf := h.2.2.1.1.1.2
  have nt := h.2.2.2.1.1.2
  have V := hid (VarAt.new w p.cells 29)
  have kc : Hid (∀ W, VarAt W w.heap.size p.cells 29 → W.cell? ⟨w.heap.size, 0, none⟩ = some (.slice pr p.recs.length cr) ∧ W.cell? ⟨w.heap.size, 2, none⟩ = some (.slice pf p.funs.length cf) ∧ W.cell? ⟨w.heap.size, 3, none⟩ = some (.slice pt p.threads.length ct)) := hid (fun W hW => ⟨by rw [← er]; exact hW.cell 0 rfl, by rw [← ef]; exact hW.cell 2 rfl, by rw [← eth]; exact hW.cell 3 rfl⟩)
  have kg : Hid (∀ W, VarAt W w.heap.size p.cells 29 → W.cell? ⟨w.heap.size, 1, none⟩ = some (.slice pg p.globs.length cg)) := hid (fun W hW => by rw [← eg]; exact hW.cell 1 rfl)
  have hr := h.1
  rw [er] at hr
  have hg := h.2.1
  rw [eg] at hg
  have hf := h.2.2.1
  rw [ef] at hf
  have ht := h.2.2.2
  rw [eth] at ht
  replace hr := hid hr
  replace hg := hid hg
  replace hf := hid hf
  replace ht := hid ht
  obtain ⟨c0, c1, c2⟩ := kc.out _ V.out
  have Bel : Hid (Below w.heap.size w (w.alloc (.cells p.cells.toArray 29))) := hid ((Below.refl _ _).alloc (Nat.le_refl _) _)
  have b3 : Hid (p.hd3.length ≤ 1000) := hid (by simp [Pg.hd3])
  have h3 : Hid (p.hd3.length = 3) := hid rfl
  clear h er eg ef eth
  unfold Pg.val
  go_enter Try.func11, Try.ntmps11
  go_wp2_with fail
  go_region_held3 (fun w' => w'.cell? ⟨w.heap.size, 0, none⟩ = some (.slice pr p.recs.length cr) ∧ w'.cell? ⟨w.heap.size, 2, none⟩ = some (.slice pf p.funs.length cf) ∧ w'.cell? ⟨w.heap.size, 3, none⟩ = some (.slice pt p.threads.length ct))
    (first | go_keep | exact kc.out _ V.out | exact kc.out _ (V.out.kept ((Below.refl _ _).alloc (Nat.le_refl _) _)))
    ((go_at_call 34; refine (T _ _).mono ?_; rintro r y1 ⟨rfl, hb⟩; replace V := hid (V.out.next hb rfl); have bx := kc.out _ V.out; replace Bel := hid (bel_step Bel.out hb rfl rfl rfl rfl); clear hb))
  all_goals
    have Y : Hid (Beside w (y1.alloc (.cells #[.string (txt p.recs.length), .string (txt p.funs.length), .string (txt p.threads.length)] 9)) (.slice (some ⟨y1.heap.size, 0, none⟩) 3 3) p.hd3 w.heap.size p.cells 29) := hid ⟨Txts.made (w := w) p.hd3 Bel.out b3.out, V.out.kept ((Below.refl _ _).alloc (Nat.le_refl _) _), fun e => by
      have := V.out.lt
      simp only [Value.ownBlock, Option.some.injEq] at e
      omega⟩
    clear bx c0 c1 c2 Bel V
    generalize (y1.alloc (.cells #[.string (txt p.recs.length), .string (txt p.funs.length), .string (txt p.threads.length)] 9)) = W9 at *
    have bx := kc.out _ Y.out.box
    go_wp2_with fail
    go_loopw [3, 26] (fun vo vi wr => ∃ (k : Nat) (pv : Option Addr) (n cv : Nat) (L : List ByteArray), k ≤ p.recs.length ∧ vi = .int .i64 k ∧ vo = .slice pv n cv ∧ Hid (Beside w wr (.slice pv n cv) L w.heap.size p.cells 29 ∧ L = p.hd3 ++ (p.recs.take k).flatMap Rc.texts)) (fun _ vi _ => p.recs.length - (intOf vi).toNat)
    case atStart => exact ⟨0, _, _, _, p.hd3, Nat.zero_le _, rfl, rfl, hid ⟨Y.out, by simp⟩⟩
    case round =>
      obtain ⟨k, pv, n, cv, L, hk, rfl, rfl, hat⟩ := hrel
      clear Y bx
      by_cases hlt : k < p.recs.length
      · obtain ⟨s, hs⟩ : ∃ s, p.recs[k]? = some s := ⟨_, List.getElem?_eq_getElem hlt⟩
        obtain ⟨g, cap, eg, hF, hgl, hrg⟩ := RowAt.elem Rc.len hr.out.1 hs
        obtain ⟨rfl, -, rfl⟩ := Value.slice.inj eg
        clear eg
        have so := hid (hr.out.2 s (List.mem_of_getElem? hs))
        have rg := hid (rangeAt_kept hrg hat.out.1.txts.bel)
        have hk0 : (0 : Int) ≤ (k : Int) := Int.natCast_nonneg _
        have hk1 : (k : Int) < (p.recs.length : Int) := by omega
        have t1 := take_len Rc.texts p.recs k s hs
        have t2 := hid (take_flat Rc.texts p.recs k s hs)
        have es : Hid (s.texts = [s.nm] ++ namedT s.fields) := hid rfl
        rw [es.out] at t1
        simp only [List.length_append, List.length_cons, List.length_nil] at t1
        have qL : Hid (L.length = 3 + ((p.recs.take k).flatMap Rc.texts).length) := hid (by rw [hat.out.2, List.length_append, h3.out])
        have s1 : Hid (L.length + [s.nm].length ≤ 2000000) := hid (by rw [qL.out]; have := h3.out; simp only [List.length_cons, List.length_nil]; omega)
        have hn35 : Hid ((namedT s.fields).length ≤ 2000000) := hid (by omega)
        have s2 : Hid (L.length + 1 + (namedT s.fields).length ≤ 2000000) := hid (by rw [qL.out]; have := h3.out; omega)
        obtain ⟨pn, cn, en⟩ := so.out.1.form
        have C35 := hid (fun (W : World) (hb : Below w.heap.size w W) => refNamed_any s.fields s.fv W F (nmsOk.kept so.out hb) hn35.out)
        rw [en] at C35
        have hL0 := hid hat.out.2
        have Z := hid (hat.out.1.txts.box s.cells 76)
        have Y := hid (hat.out.1.alloc (.cells s.cells.toArray 76))
        have k5 : Hid (∀ W, VarAt W wr.heap.size s.cells 76 → W.cell? ⟨wr.heap.size, 0, none⟩ = some (.string s.nm) ∧ W.cell? ⟨wr.heap.size, 1, none⟩ = some (.slice pn s.fields.length cn)) := hid (fun W hW => ⟨hW.cell 0 rfl, by rw [← en]; exact hW.cell 1 rfl⟩)
        have R1 : Hid (strsAt ((wr.alloc (.cells s.cells.toArray 76)).alloc (.cells #[.string s.nm] 9)).drew (fun _ => True) (.slice (some ⟨wr.heap.size + 1, 0, none⟩) 1 1) [s.nm]) := hid (by
          have := (Txts.made (w := wr.alloc (.cells s.cells.toArray 76)) [s.nm] (Below.refl _ _) (by simp)).row (by simp)
          rw [World.size_alloc] at this
          exact this)
        have bx := k5.out _ Z.out.box
        have one := hid (Rc.ok.one so.out)
        clear hrg t1 hat en
        go_upto_region 5 with (first
          | refine wl_load 76 _ rfl rfl g (k * 4) rfl s.cells rg.out s.agg ?_
          | refine wl_store_new 76 _ _ rfl rfl wr 76 _ rfl wr.heap.size rfl rfl s.cells rfl s.agg rfl one.out ?_)
        go_region_held3 (fun w' => w'.cell? ⟨wr.heap.size, 0, none⟩ = some (.string s.nm) ∧ w'.cell? ⟨wr.heap.size, 1, none⟩ = some (.slice pn s.fields.length cn))
          (first | go_keep | exact k5.out _ Z.out.box | exact k5.out _ (Z.out.alloc _).box)
          (first
            | (refine step_app2 (by rfl) _ _ (by rfl) _ (by rfl) L (Z.out.alloc _).drew.txts (.slice (some ⟨wr.heap.size + 1, 0, none⟩) 1 1) (by rfl) (fun _ => True) [s.nm] R1.out s1.out ?_; intro p1 c1' y2 n1 L1 hL1 hn1 hg1; replace Y := hid ((Y.out.alloc _).drew.grew hn1.out hg1.out); replace Z := hid ((Z.out.alloc _).drew.grew hn1.out hg1.out); have bx := k5.out _ Z.out.box; clear hn1 hg1)
            | (go_at_call 35; refine (C35.out _ (by first | exact Y.out.txts.bel | exact below_drew Y.out.txts.bel)).mono ?_; rintro r y3 ⟨u3', rfl, hA⟩; replace Y := hid (Y.out.keep hA.bel); replace Z := hid (Z.out.keep hA.bel); have bx := k5.out _ Z.out.box; replace hA := hid hA)
            | (refine step_app2 (by rfl) _ _ (by rfl) _ (by rfl) L1 Y.out.txts _ (by rfl) (fun _ => True) (namedT s.fields) (hA.out.row hn35.out) (by rw [hL1.out]; simpa using s2.out) ?_; intro p2 c2' y4 n2 L2 hL2 hn2 hg2; replace Y := hid (Y.out.grew hn2.out hg2.out); replace Z := hid (Z.out.grew hn2.out hg2.out); have bx := k5.out _ Z.out.box; clear hn2 hg2))
        all_goals
          clear bx
          go_wp2_with fail
          go_roundw
          case rel => exact ⟨k + 1, p2, n2, c2', L2, by omega, by go_num, rfl, hid ⟨Y.out, by rw [hL2.out, hL1.out, hL0.out, t2.out, es.out]; simp only [List.append_assoc]⟩⟩
          case measure => simp [intOf]; omega
      · have hkl : p.recs.take k = p.recs := List.take_of_length_le (by omega)
        rw [hkl] at hat
        have hL1 := hid hat.out.2
        have q1 : Hid (L.length = 3 + (p.recs.flatMap Rc.texts).length) := hid (by rw [hat.out.2, List.length_append, h3.out])
        have Y := hid hat.out.1
        have h7 : Hid ((namedT p.globs).length ≤ 2000000) := hid (by omega)
        have s7 : Hid (L.length + (namedT p.globs).length ≤ 2000000) := hid (by rw [q1.out]; have := h3.out; omega)
        have C7 := hid (fun (W : World) (hb : Below w.heap.size w W) => refNamed_any p.globs _ W F (nmsOk.kept hg.out hb) h7.out)
        have cg1 := kg.out _ Y.out.box
        clear hat hkl
        go_upto_region 8 with (first
          | (go_at_call 35; refine (C7.out _ Y.out.txts.bel).mono ?_; rintro r y7 ⟨u7', rfl, hA⟩; replace Y := hid (Y.out.keep hA.bel); replace hA := hid hA)
          | (at_builtin; refine wl_app2 rfl _ _ rfl _ rfl L Y.out.txts _ rfl (fun _ => True) (namedT p.globs) (hA.out.row h7.out) s7.out ?_; intro p2 c2' z7 n2 L2 hL2 hn hg2; replace Y := hid (Y.out.grew hn.out hg2.out); clear hn hg2 hA))
        have q2 : Hid (L2.length = L.length + (namedT p.globs).length) := hid (by rw [hL2.out, List.length_append])
        rw [q1.out] at q2
        have bx := kc.out _ Y.out.box
        clear cg1
        go_wp2_with fail
        go_loopw [3, 48] (fun vo vi wr => ∃ (k : Nat) (pv : Option Addr) (n cv : Nat) (L' : List ByteArray), k ≤ p.funs.length ∧ vi = .int .i64 k ∧ vo = .slice pv n cv ∧ Hid (Beside w wr (.slice pv n cv) L' w.heap.size p.cells 29 ∧ L' = L2 ++ (p.funs.take k).flatMap Fn.texts)) (fun _ vi _ => p.funs.length - (intOf vi).toNat)
        case atStart => exact ⟨0, _, _, _, L2, Nat.zero_le _, rfl, rfl, hid ⟨Y.out, by simp⟩⟩
        case round =>
          obtain ⟨k2, pv2, m2, cv2, Lf, hk2, rfl, rfl, hat⟩ := hrel
          rename World => wf
          clear Y bx
          by_cases hlt2 : k2 < p.funs.length
          · obtain ⟨s, hs⟩ : ∃ s, p.funs[k2]? = some s := ⟨_, List.getElem?_eq_getElem hlt2⟩
            obtain ⟨g, cap, eg, hF, hgl, hrg⟩ := RowAt.elem Fn.len hf.out.1 hs
            obtain ⟨rfl, -, rfl⟩ := Value.slice.inj eg
            clear eg
            have so := hid (hf.out.2 s (List.mem_of_getElem? hs))
            have rg := hid (rangeAt_kept hrg hat.out.1.txts.bel)
            have hk0 : (0 : Int) ≤ (k2 : Int) := Int.natCast_nonneg _
            have hk1 : (k2 : Int) < (p.funs.length : Int) := by omega
            have t1 := take_len Fn.texts p.funs k2 s hs
            have t2 := hid (take_flat Fn.texts p.funs k2 s hs)
            have es : Hid (s.texts = [s.nm] ++ (namedT s.params ++ rowT s.body)) := hid rfl
            rw [es.out] at t1
            simp only [List.length_append, List.length_cons, List.length_nil] at t1
            have qL : Hid (Lf.length = L2.length + ((p.funs.take k2).flatMap Fn.texts).length) := hid (by rw [hat.out.2, List.length_append])
            rw [q2.out] at qL
            have h3' := h3.out
            have s1 : Hid (Lf.length + [s.nm].length ≤ 2000000) := hid (by rw [qL.out]; simp only [List.length_cons, List.length_nil]; omega)
            have hn35 : Hid ((namedT s.params).length ≤ 2000000) := hid (by omega)
            have hn13 : Hid ((rowT s.body).length ≤ 2000000) := hid (by omega)
            have s2 : Hid (Lf.length + 1 + (namedT s.params).length ≤ 2000000) := hid (by rw [qL.out]; omega)
            have s3 : Hid (Lf.length + 1 + (namedT s.params).length + (rowT s.body).length ≤ 2000000) := hid (by rw [qL.out]; omega)
            clear h3'
            obtain ⟨pn, cn, en⟩ := so.out.1.1.form
            obtain ⟨pb, cb, eb⟩ := so.out.2.1.form
            have C35 := hid (fun (W : World) (hb : Below w.heap.size w W) => refNamed_any s.params s.pv W F (nmsOk.kept so.out.1 hb) hn35.out)
            have C13 := hid (fun (W : World) (hb : Below w.heap.size w W) => refStmts_any s.body s.bv W F (so.out.2.kept hb) hn13.out)
            rw [en] at C35
            rw [eb] at C13
            have hL0 := hid hat.out.2
            have Z := hid (hat.out.1.txts.box s.cells 58)
            have Y := hid (hat.out.1.alloc (.cells s.cells.toArray 58))
            have k5 : Hid (∀ W, VarAt W (World.heap wf).size s.cells 58 → W.cell? ⟨(World.heap wf).size, 0, none⟩ = some (.string s.nm) ∧ W.cell? ⟨(World.heap wf).size, 1, none⟩ = some (.slice pn s.params.length cn) ∧ W.cell? ⟨(World.heap wf).size, 2, none⟩ = some (.slice pb s.body.length cb)) := hid (fun W hW => ⟨hW.cell 0 rfl, by rw [← en]; exact hW.cell 1 rfl, by rw [← eb]; exact hW.cell 2 rfl⟩)
            have R1 : Hid (strsAt ((World.alloc wf (.cells s.cells.toArray 58)).alloc (.cells #[.string s.nm] 9)).drew (fun _ => True) (.slice (some ⟨(World.heap wf).size + 1, 0, none⟩) 1 1) [s.nm]) := hid (by
              have := (Txts.made (w := World.alloc wf (.cells s.cells.toArray 58)) [s.nm] (Below.refl _ _) (by simp)).row (by simp)
              rw [World.size_alloc] at this
              exact this)
            have bx := k5.out _ Z.out.box
            have one := hid (Fn.ok.one so.out)
            clear hrg t1 hat en eb
            go_upto_region 11 with (first
              | refine wl_load 58 _ rfl rfl g (k2 * 5) rfl s.cells rg.out s.agg ?_
              | refine wl_store_new 58 _ _ rfl rfl wf 58 _ rfl _ rfl rfl s.cells rfl s.agg rfl one.out ?_)
            go_region_held3 (fun w' => w'.cell? ⟨(World.heap wf).size, 0, none⟩ = some (.string s.nm) ∧ w'.cell? ⟨(World.heap wf).size, 1, none⟩ = some (.slice pn s.params.length cn) ∧ w'.cell? ⟨(World.heap wf).size, 2, none⟩ = some (.slice pb s.body.length cb))
              (first | go_keep | exact k5.out _ Z.out.box | exact k5.out _ (Z.out.alloc _).box)
              (first
                | (refine step_app2 (by rfl) _ _ (by rfl) _ (by rfl) Lf (Z.out.alloc _).drew.txts (.slice (some ⟨(World.heap wf).size + 1, 0, none⟩) 1 1) (by rfl) (fun _ => True) [s.nm] R1.out s1.out ?_; intro p1 c1' y2 n1 La hLa hn1 hg1; replace Y := hid ((Y.out.alloc _).drew.grew hn1.out hg1.out); replace Z := hid ((Z.out.alloc _).drew.grew hn1.out hg1.out); have bx := k5.out _ Z.out.box; clear hn1 hg1)
                | (go_at_call 35; refine (C35.out _ (by first | exact Y.out.txts.bel | exact below_drew Y.out.txts.bel)).mono ?_; rintro r y3 ⟨u3', rfl, hA⟩; replace Y := hid (Y.out.keep hA.bel); replace Z := hid (Z.out.keep hA.bel); have bx := k5.out _ Z.out.box; replace hA := hid hA)
                | (refine step_app2 (by rfl) _ _ (by rfl) _ (by rfl) La Y.out.txts _ (by rfl) (fun _ => True) (namedT s.params) (hA.out.row hn35.out) (by rw [hLa.out]; simpa using s2.out) ?_; intro p3 c3' y4 n3 Lb hLb hn2 hg2; replace Y := hid (Y.out.grew hn2.out hg2.out); replace Z := hid (Z.out.grew hn2.out hg2.out); have bx := k5.out _ Z.out.box; clear hn2 hg2)
                | (go_at_call 13; refine (C13.out _ (by first | exact Y.out.txts.bel | exact below_drew Y.out.txts.bel)).mono ?_; rintro r y5 ⟨u5', rfl, hB⟩; replace Y := hid (Y.out.keep hB.bel); replace Z := hid (Z.out.keep hB.bel); have bx := k5.out _ Z.out.box; replace hB := hid hB)
                | (refine step_app2 (by rfl) _ _ (by rfl) _ (by rfl) Lb Y.out.txts _ (by rfl) (fun _ => True) (rowT s.body) (hB.out.row hn13.out) (by rw [hLb.out, hLa.out]; simp only [List.length_append, List.length_cons, List.length_nil]; have := s3.out; omega) ?_; intro p4 c4' y6 n4 Lc hLc hn2 hg2; replace Y := hid (Y.out.grew hn2.out hg2.out); replace Z := hid (Z.out.grew hn2.out hg2.out); have bx := k5.out _ Z.out.box; clear hn2 hg2))
            all_goals
              clear bx
              go_wp2_with fail
              go_roundw
              case rel => exact ⟨k2 + 1, p4, n4, c4', Lc, by omega, by go_num, rfl, hid ⟨Y.out, by rw [hLc.out, hLb.out, hLa.out, hL0.out, t2.out, es.out]; simp only [List.append_assoc]⟩⟩
              case measure => simp [intOf]; omega
          · have hkl : p.funs.take k2 = p.funs := List.take_of_length_le (by omega)
            rw [hkl] at hat
            have hL3 := hid hat.out.2
            have q3 : Hid (Lf.length = L2.length + (p.funs.flatMap Fn.texts).length) := hid (by rw [hat.out.2, List.length_append])
            rw [q2.out] at q3
            have Y := hid hat.out.1
            have bx := kc.out _ Y.out.box
            clear hat hkl
            go_wp2_with fail
            go_loopw [3, 69] (fun vo vi wr => ∃ (k : Nat) (pv : Option Addr) (n cv : Nat) (L' : List ByteArray), k ≤ p.threads.length ∧ vi = .int .i64 k ∧ vo = .slice pv n cv ∧ Hid (Txts w wr (.slice pv n cv) L' ∧ L' = Lf ++ (p.threads.take k).flatMap Th.texts)) (fun _ vi _ => p.threads.length - (intOf vi).toNat)
            case atStart => exact ⟨0, _, _, _, Lf, Nat.zero_le _, rfl, rfl, hid ⟨Y.out.txts, by simp⟩⟩
            case round =>
              obtain ⟨k3, pv3, m3, cv3, Lt, hk3, rfl, rfl, hat⟩ := hrel
              rename World => wt
              clear Y bx
              by_cases hlt3 : k3 < p.threads.length
              · obtain ⟨s, hs⟩ : ∃ s, p.threads[k3]? = some s := ⟨_, List.getElem?_eq_getElem hlt3⟩
                obtain ⟨g, cap, eg, hF, hgl, hrg⟩ := RowAt.elem Th.len ht.out.1 hs
                obtain ⟨rfl, -, rfl⟩ := Value.slice.inj eg
                clear eg
                have so := hid (ht.out.2 s (List.mem_of_getElem? hs))
                have rg := hid (rangeAt_kept hrg hat.out.1.bel)
                have hk0 : (0 : Int) ≤ (k3 : Int) := Int.natCast_nonneg _
                have hk1 : (k3 : Int) < (p.threads.length : Int) := by omega
                have t1 := take_len Th.texts p.threads k3 s hs
                have t2 := hid (take_flat Th.texts p.threads k3 s hs)
                have es : Hid (s.texts = rowT s.body) := hid rfl
                rw [es.out] at t1
                have qL : Hid (Lt.length = Lf.length + ((p.threads.take k3).flatMap Th.texts).length) := hid (by rw [hat.out.2, List.length_append])
                rw [q3.out] at qL
                have h3' := h3.out
                have hn13 : Hid ((rowT s.body).length ≤ 2000000) := hid (by omega)
                have s3 : Hid (Lt.length + (rowT s.body).length ≤ 2000000) := hid (by rw [qL.out]; omega)
                clear h3'
                obtain ⟨pb, cb, eb⟩ := Th.ok.form so.out
                have C13 := hid (fun (W : World) (hb : Below w.heap.size w W) => refStmts_any s.body s.bv W F (stsOk.kept so.out hb) hn13.out)
                rw [eb] at C13
                have hL0 := hid hat.out.2
                have Z := hid (hat.out.1.box s.cells 37)
                have bx : (World.alloc wt (.cells s.cells.toArray 37)).cell? ⟨(World.heap wt).size, 0, none⟩ = some (.slice pb s.body.length cb) := by rw [← eb]; exact Z.out.box.cell 0 rfl
                have one := hid (Th.ok.one so.out)
                clear hrg t1 hat eb
                go_wp2_with (first
                  | refine wl_load 37 _ rfl rfl g (k3 * 3) rfl s.cells rg.out s.agg ?_
                  | refine wl_store_new 37 _ _ rfl rfl wt 37 _ rfl _ rfl rfl s.cells rfl s.agg rfl one.out ?_
                  | (go_at_call 13; refine (C13.out _ Z.out.txts.bel).mono ?_; rintro r y7 ⟨u7', rfl, hA⟩; replace Z := hid (Z.out.keep hA.bel); replace hA := hid hA)
                  | (at_builtin; refine wl_app2 rfl _ _ rfl _ rfl Lt Z.out.txts _ rfl (fun _ => True) (rowT s.body) (hA.out.row hn13.out) s3.out ?_; intro p9 c9' z9 n9 L9 hL9 hn hg9; replace Z := hid (Z.out.grew hn.out hg9.out); clear hn hg9 hA))
                go_roundw
                case rel => exact ⟨k3 + 1, p9, n9, c9', L9, by omega, by go_num, rfl, hid ⟨Z.out.txts, by rw [hL9.out, hL0.out, t2.out, es.out]; simp only [List.append_assoc]⟩⟩
                case measure => simp [intOf]; omega
              · have hkl : p.threads.take k3 = p.threads := List.take_of_length_le (by omega)
                rw [hkl] at hat
                go_wp2_with fail
                go_ret
                exact ⟨_, rfl, by rw [et.out]; have e := hat.out.2; rw [hL3.out, hL2.out, hL1.out] at e; simp only [List.append_assoc] at e; rw [← e]; exact hat.out.1⟩
end Go.Proofs.Ytfdfeiempeciiaa
