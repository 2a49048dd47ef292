/- The contract of the document's Stmts. -/
import Derived.Test.YtfdfeiempeciiaaRefPlace
import Derived.Deep.CutBlock
import Derived.Deep.CutRange
import Derived.Deep.DeepCutAuto
namespace Go.Proofs.Ytfdfeiempeciiaa
open Go.ChangeShapes Go.WideShapes Go.ChangeAt Go.RowKit
set_option linter.unusedVariables false

def St.hd7 (s : St) : List ByteArray := [sStmt, txt s.op, s.nm, txt s.n, txt s.right.op, s.right.nm, txt s.args.length]
/-- Cells of the box of a statement. -/
def BoxS (B : Nat) (s : St) (av : Value) (W : World) : Prop := W.cell? ⟨B, 0, none⟩ = some (.int .i64 s.op) ∧ W.cell? ⟨B, 1, none⟩ = some (.string s.nm) ∧ W.cell? ⟨B, 52, none⟩ = some (.int .i64 s.n) ∧ W.cell? ⟨B, 2, none⟩ = some (.int .i64 s.right.op) ∧ W.cell? ⟨B, 26, none⟩ = some (.string s.right.nm) ∧ W.cell? ⟨B, 53, none⟩ = some av
theorem boxS_of {W : World} {B : Nat} {s : St} {av : Value} (h : VarAt W B s.cells 52) (e : s.av = av) : BoxS B s av W := ⟨h.cell 0 rfl, h.cell 1 rfl, h.cell 52 rfl, h.cell 2 rfl, h.cell 26 rfl, by rw [← e]; exact h.cell 53 rfl⟩
theorem VarAt.next {W0 W w' : World} {b : Nat} {cs : List Value} {t : TypeId} (h : VarAt W0 b cs t) (hb : Below W.heap.size W w') (eh : W.heap = W0.heap) : VarAt w' b cs t := by
  have hl := h.lt
  refine (hb.block b (by rw [eh]; exact hl)).trans ?_
  rw [eh]
  exact h
/-- What is asked of the row of a statement. -/
def RowOk (l : List St) : Prop := ∀ (v : Value) (w : World) (F : Nat → Prop), stsOk w F v l → (rowT l).length ≤ 2000000 → Calls Try.prog 13 #[v] w fun r w' => ∃ u, r = .returned u ∧ Txts w w' u (rowT l)
theorem St.texts7 (s : St) : s.texts = s.hd7 ++ (s.right.e.texts ++ (s.right.place.texts ++ (s.place.texts ++ (s.e.texts ++ (s.args.flatMap Ex.texts ++ (rowT s.body ++ rowT s.els)))))) := by
  rw [St.texts_eq]
  simp only [St.hd7, rowT, List.append_assoc]

set_option maxRecDepth 100000 in
set_option maxHeartbeats 4000000 in
theorem refStmts_step (l : List St) (ih : ∀ s ∈ l, RowOk s.body ∧ RowOk s.els) : RowOk l := by
  intro v w F hv hlen
  obtain ⟨p, c, rfl⟩ := hv.1.form
  have hn47 := hv.1.1.2
  have T := text_any (l.length : Int)
  have el : Hid (rowT l = [sRow, txt l.length] ++ l.flatMap St.texts) := hid rfl
  rw [el.out] at hlen
  simp only [List.length_append, List.length_cons, List.length_nil] at hlen
  replace hv := hid hv
  go_enter Try.func13, Try.ntmps13
  go_wp2_with fail
  refine (T _).mono ?_
  rintro r w1 ⟨rfl, hb⟩
  replace hb := hid hb
  clear T
  have A : Hid (Txts w (w1.alloc (.cells #[.string { data := #[114, 111, 119] }, .string (txt l.length)] 9)) (.slice (some ⟨w1.heap.size, 0, none⟩) 2 2) [sRow, txt l.length]) := hid (Txts.made (w := w) [sRow, txt l.length] hb.out (by simp))
  go_wp2_with fail
  go_loopw [3, 14] (fun vo vi wr => ∃ (k : Nat) (pv : Option Addr) (n cv : Nat) (L : List ByteArray), k ≤ l.length ∧ vi = .int .i64 k ∧ vo = .slice pv n cv ∧ Hid (Txts w wr (.slice pv n cv) L ∧ L = [sRow, txt l.length] ++ (l.take k).flatMap St.texts)) (fun _ vi _ => l.length - (intOf vi).toNat)
  case atStart => exact ⟨0, _, _, _, [sRow, txt l.length], Nat.zero_le _, rfl, rfl, hid ⟨A.out, by simp⟩⟩
  case round =>
    obtain ⟨k, pv, n, cv, L, hk, rfl, rfl, hat⟩ := hrel
    clear A hb
    by_cases hlt : k < l.length
    · obtain ⟨s, hs⟩ : ∃ s, l[k]? = some s := ⟨_, List.getElem?_eq_getElem hlt⟩
      obtain ⟨g, cap, eg, hF, hgl, hrg⟩ := RowAt.elem St.len hv.out.1 hs
      obtain ⟨rfl, -, rfl⟩ := Value.slice.inj eg
      clear eg
      have hms := List.mem_of_getElem? hs
      have so := hid (hv.out.2 s hms)
      have rg := hid (rangeAt_kept hrg hat.out.1.bel)
      have one := hid so.out.hd.one
      have hk0 : (0 : Int) ≤ (k : Int) := Int.natCast_nonneg _
      have hk1 : (k : Int) < (l.length : Int) := by omega
      have ht1 := take_len St.texts l k s hs
      have ht2 := hid (take_flat St.texts l k s hs)
      have e7 := hid (St.texts7 s)
      rw [e7.out] at ht1
      simp only [List.length_append] at ht1
      have hLl : L.length = 2 + ((l.take k).flatMap St.texts).length := by rw [hat.out.2]; simp only [List.length_append, List.length_cons, List.length_nil]
      have h7 : s.hd7.length = 7 := rfl
      have hsum : L.length + (7 + (s.right.e.texts.length + (s.right.place.texts.length + (s.place.texts.length + (s.e.texts.length + ((s.args.flatMap Ex.texts).length + ((rowT s.body).length + (rowT s.els).length))))))) ≤ 2000000 := by omega
      have hL0 := hid hat.out.2
      have X := hid hat.out.1
      clear hrg ht1 hLl hat
      replace h7 := hid h7
      obtain ⟨pa, ca, eav⟩ := so.out.hd.2.2.2.2.1.1.form
      obtain ⟨pb, cb, ebv⟩ := so.out.hd.2.2.2.2.2.1.form
      obtain ⟨pe, ce, eev⟩ := so.out.hd.2.2.2.2.2.2.form
      replace eav := hid eav
      replace ebv := hid ebv
      replace eev := hid eev
      have z5 : w.heap.size ≤ wr.heap.size := X.out.bel.size
      have Y : Hid (Beside w (wr.alloc (.cells s.cells.toArray 52)) (.slice pv n cv) L wr.heap.size s.cells 52) := hid ⟨X.out.keep ((Below.refl _ _).alloc (Nat.le_refl _) _), VarAt.new wr s.cells 52, fun e => by have := own_lt X.out.own e; omega⟩
      have bx := boxS_of Y.out.box eav.out
      simp only [BoxS] at bx
      obtain ⟨c0, c1, c2, c3, c4, c5⟩ := bx
      have hb0 : Hid (Below w.heap.size w (wr.alloc (.cells s.cells.toArray 52))) := hid Y.out.txts.bel
      have Bel : Hid (Below (wr.alloc (.cells s.cells.toArray 52)).heap.size (wr.alloc (.cells s.cells.toArray 52)) (wr.alloc (.cells s.cells.toArray 52))) := hid (Below.refl _ _)
      have T := fun n W => text_any n W
      go_upto_region 5 with (first
        | refine wl_load 52 _ rfl rfl g (k * 58) rfl s.cells rg.out s.agg ?_
        | refine wl_store_new 52 _ _ rfl rfl wr 52 _ rfl wr.heap.size rfl rfl s.cells rfl s.agg rfl one.out ?_)
      have b7 : Hid (s.hd7.length ≤ 1000) := hid (by rw [h7.out]; omega)
      have s7 : Hid (L.length + s.hd7.length ≤ 2000000) := hid (by rw [h7.out]; omega)
      go_region_held3 (fun w' => w'.cell? ⟨wr.heap.size, 0, none⟩ = some (.int .i64 s.op) ∧ w'.cell? ⟨wr.heap.size, 1, none⟩ = some (.string s.nm) ∧ w'.cell? ⟨wr.heap.size, 52, none⟩ = some (.int .i64 s.n) ∧ w'.cell? ⟨wr.heap.size, 2, none⟩ = some (.int .i64 s.right.op) ∧ w'.cell? ⟨wr.heap.size, 26, none⟩ = some (.string s.right.nm) ∧ w'.cell? ⟨wr.heap.size, 53, none⟩ = some (.slice pa s.args.length ca))
        (first | go_keep | exact boxS_of Y.out.box eav.out | exact boxS_of (Y.out.keep ((Below.refl _ _).alloc (Nat.le_refl _) _)).box eav.out)
        (first
          | (go_at_call 34; refine (T _ _).mono ?_; rintro r y1 ⟨rfl, hb⟩; replace Y := hid (Y.out.keep ⟨hb.os, hb.tape, hb.output, hb.size, hb.block⟩); have bx := boxS_of Y.out.box eav.out; simp only [BoxS] at bx; replace Bel := hid (bel_step Bel.out hb rfl rfl rfl rfl); clear hb)
          | (refine step_app2 (by rfl) _ _ (by rfl) _ (by rfl) L (Y.out.keep ((Below.refl _ _).alloc (Nat.le_refl _) _)).txts _ (by rfl) (fun _ => True) s.hd7 ((Txts.made s.hd7 Bel.out b7.out).row (by have := b7.out; omega)) s7.out ?_; intro p1 c1' y2 n1 L1 hL1 hn1 hg1; replace Y := hid ((Y.out.keep ((Below.refl _ _).alloc (Nat.le_refl _) _)).grew hn1.out hg1.out); have bx := boxS_of Y.out.box eav.out; simp only [BoxS] at bx; clear hn1 hg1))
      all_goals
        clear bx c0 c1 c2 c3 c4 c5 T Bel b7 s7 hb0 X
        have q1 : Hid (L1.length = L.length + 7) := hid (by rw [hL1.out, List.length_append, h7.out])
        have h6 : Hid (s.right.e.texts.length ≤ 2000000) := hid (by omega)
        have h7' : Hid (s.right.place.texts.length ≤ 2000000) := hid (by omega)
        have h8 : Hid (s.place.texts.length ≤ 2000000) := hid (by omega)
        have h9 : Hid (s.e.texts.length ≤ 2000000) := hid (by omega)
        have C6 := hid (fun (W : World) (hb : Below w.heap.size w W) => refExpr_any s.right.e W F (so.out.hd.2.1.2.1.kept hb) h6.out)
        have C7 := hid (fun (W : World) (hb : Below w.heap.size w W) => refPlace_any s.right.place W F (Pl.ok.kept so.out.hd.2.1.2.2 hb) h7'.out)
        have C8 := hid (fun (W : World) (hb : Below w.heap.size w W) => refPlace_any s.place W F (Pl.ok.kept so.out.hd.2.2.1 hb) h8.out)
        have C9 := hid (fun (W : World) (hb : Below w.heap.size w W) => refExpr_any s.e W F (so.out.hd.2.2.2.1.kept hb) h9.out)
        have s6 : Hid (L1.length + s.right.e.texts.length ≤ 2000000) := hid (by rw [q1.out]; omega)
        go_upto_region 7 with (first
          | refine wl_load 46 _ rfl rfl wr.heap.size 3 rfl s.right.e.cells (range_part Y.out.box.range 3 _ rfl) s.right.e.agg ?_
          | (go_at_call 15; refine (C6.out _ Y.out.txts.bel).mono ?_; rintro r y6 ⟨u6', rfl, hA⟩; replace Y := hid (Y.out.keep hA.bel); replace hA := hid hA)
          | (at_builtin; refine wl_app2 rfl _ _ rfl _ rfl L1 Y.out.txts _ rfl (fun _ => True) s.right.e.texts (hA.out.row h6.out) s6.out ?_; intro p2 c2' z6 n2 L2 hL2 hn hg; replace Y := hid (Y.out.grew hn.out hg.out); clear hn hg hA))
        have q2 : Hid (L2.length = L1.length + s.right.e.texts.length) := hid (by rw [hL2.out, List.length_append])
        rw [q1.out] at q2
        clear s6 C6
        have s7 : Hid (L2.length + s.right.place.texts.length ≤ 2000000) := hid (by rw [q2.out]; omega)
        go_upto_region 8 with (first
          | refine wl_load 48 _ rfl rfl wr.heap.size 12 rfl s.right.place.cells (range_part Y.out.box.range 12 _ rfl) s.right.place.agg ?_
          | (go_at_call 37; refine (C7.out _ Y.out.txts.bel).mono ?_; rintro r y7 ⟨u7', rfl, hA⟩; replace Y := hid (Y.out.keep hA.bel); replace hA := hid hA)
          | (at_builtin; refine wl_app2 rfl _ _ rfl _ rfl L2 Y.out.txts _ rfl (fun _ => True) s.right.place.texts (hA.out.row h7'.out) s7.out ?_; intro p3 c3' z7 n3 L3 hL3 hn hg; replace Y := hid (Y.out.grew hn.out hg.out); clear hn hg hA))
        have q3 : Hid (L3.length = L2.length + s.right.place.texts.length) := hid (by rw [hL3.out, List.length_append])
        rw [q2.out] at q3
        clear s7 C7
        have s8 : Hid (L3.length + s.place.texts.length ≤ 2000000) := hid (by rw [q3.out]; omega)
        go_upto_region 9 with (first
          | refine wl_load 48 _ rfl rfl wr.heap.size 29 rfl s.place.cells (range_part Y.out.box.range 29 _ rfl) s.place.agg ?_
          | (go_at_call 37; refine (C8.out _ Y.out.txts.bel).mono ?_; rintro r y8 ⟨u8', rfl, hA⟩; replace Y := hid (Y.out.keep hA.bel); replace hA := hid hA)
          | (at_builtin; refine wl_app2 rfl _ _ rfl _ rfl L3 Y.out.txts _ rfl (fun _ => True) s.place.texts (hA.out.row h8.out) s8.out ?_; intro p4 c4' z8 n4 L4 hL4 hn hg; replace Y := hid (Y.out.grew hn.out hg.out); clear hn hg hA))
        have q4 : Hid (L4.length = L3.length + s.place.texts.length) := hid (by rw [hL4.out, List.length_append])
        rw [q3.out] at q4
        clear s8 C8
        have s9 : Hid (L4.length + s.e.texts.length ≤ 2000000) := hid (by rw [q4.out]; omega)
        go_upto_region 10 with (first
          | refine wl_load 46 _ rfl rfl wr.heap.size 43 rfl s.e.cells (range_part Y.out.box.range 43 _ rfl) s.e.agg ?_
          | (go_at_call 15; refine (C9.out _ Y.out.txts.bel).mono ?_; rintro r y9 ⟨u9', rfl, hA⟩; replace Y := hid (Y.out.keep hA.bel); replace hA := hid hA)
          | (at_builtin; refine wl_app2 rfl _ _ rfl _ rfl L4 Y.out.txts _ rfl (fun _ => True) s.e.texts (hA.out.row h9.out) s9.out ?_; intro p5 c5' z9 n5 L5 hL5 hn hg; replace Y := hid (Y.out.grew hn.out hg.out); clear hn hg hA))
        have q5 : Hid (L5.length = L4.length + s.e.texts.length) := hid (by rw [hL5.out, List.length_append])
        rw [q4.out] at q5
        clear s9 C9
        have cav : z9.cell? ⟨wr.heap.size, 53, none⟩ = some (.slice pa s.args.length ca) := by
          rw [← eav.out]
          exact Y.out.box.cell 53 rfl
        go_wp2_with fail
        go_loopw [3, 65] (fun vo vi wx => ∃ (j : Nat) (pv : Option Addr) (n cv : Nat) (L' : List ByteArray), j ≤ s.args.length ∧ vi = .int .i64 j ∧ vo = .slice pv n cv ∧ Hid (Beside w wx (.slice pv n cv) L' wr.heap.size s.cells 52 ∧ L' = L5 ++ (s.args.take j).flatMap Ex.texts)) (fun _ vi _ => s.args.length - (intOf vi).toNat)
        case atStart => exact ⟨0, _, _, _, L5, Nat.zero_le _, rfl, rfl, hid ⟨Y.out, by simp⟩⟩
        case round =>
          obtain ⟨j, px, nx', cx, Lx, hj, rfl, rfl, hax⟩ := hrel
          rename World => wx
          clear Y cav
          have n47a := so.out.hd.2.2.2.2.1.1.1.2
          by_cases hjl : j < s.args.length
          · obtain ⟨x, hx⟩ : ∃ x, s.args[j]? = some x := ⟨_, List.getElem?_eq_getElem hjl⟩
            have hrowa := so.out.hd.2.2.2.2.1.1
            rw [eav.out] at hrowa
            obtain ⟨ga, capa, ega, hFa, hgla, hrga⟩ := RowAt.elem Ex.len hrowa hx
            obtain ⟨rfl, -, rfl⟩ := Value.slice.inj ega
            have xok := hid (Ex.ok.kept (so.out.hd.2.2.2.2.1.2 x (List.mem_of_getElem? hx)) hax.out.1.txts.bel)
            have rga := hid (rangeAt_kept hrga hax.out.1.txts.bel)
            have hj0 : (0 : Int) ≤ (j : Int) := Int.natCast_nonneg _
            have hj1 : (j : Int) < (s.args.length : Int) := by omega
            have ta1 := take_len Ex.texts s.args j x hx
            have ta2 := hid (take_flat Ex.texts s.args j x hx)
            have hxl : Hid (x.texts.length ≤ 2000000) := hid (by omega)
            have hll : Hid (Lx.length + x.texts.length ≤ 2000000) := hid (by
              rw [hax.out.2, List.length_append, q5.out]
              omega)
            have Z := hid (hax.out.1.keep ((Below.refl _ _).alloc (Nat.le_refl _) (.cells x.cells.toArray 46)))
            have hLx := hid hax.out.2
            have C := hid (refExpr_any x (World.alloc wx (.cells x.cells.toArray 46)) F (Ex.ok.kept xok.out ((Below.refl _ _).alloc (Nat.le_refl _) _)) hxl.out)
            clear ega hrga hrowa ta1 hax
            go_wp2_with (first
              | refine wl_load 46 _ rfl rfl ga (j * 9) rfl x.cells rga.out x.agg ?_
              | refine wl_store_new 46 _ _ rfl rfl wx 46 _ rfl _ rfl rfl x.cells rfl x.agg rfl xok.out.one ?_
              | refine wl_load 46 _ rfl rfl _ 0 rfl x.cells (rangeAt_new wx x.cells 46) x.agg ?_
              | (go_at_call 15
                 refine C.out.mono ?_
                 rintro r wy ⟨v1, rfl, hA⟩
                 replace Z := hid (Z.out.keep hA.bel)
                 replace hA := hid hA
                 clear C)
              | (at_builtin
                 refine wl_app2 rfl _ _ rfl _ rfl Lx Z.out.txts _ rfl (fun _ => True) x.texts (hA.out.row hxl.out) hll.out ?_
                 intro pn cn wz nn Ln hLn hn hg
                 replace Z := hid (Z.out.grew hn.out hg.out)
                 clear hn hg hA))
            go_roundw
            case rel => exact ⟨j + 1, pn, nn, cn, Ln, by omega, by go_num, rfl, hid ⟨Z.out, by rw [hLn.out, hLx.out, ta2.out, List.append_assoc]⟩⟩
            case measure => simp [intOf]; omega
          · have hjt : s.args.take j = s.args := List.take_of_length_le (by omega)
            rw [hjt] at hax
            have q6 : Hid (Lx.length = L5.length + (s.args.flatMap Ex.texts).length) := hid (by rw [hax.out.2, List.length_append])
            rw [q5.out] at q6
            have hL6 := hid hax.out.2
            have Y := hid hax.out.1
            have hb15 : Hid ((rowT s.body).length ≤ 2000000) := hid (by omega)
            have hb16 : Hid ((rowT s.els).length ≤ 2000000) := hid (by omega)
            have CB := hid (fun (W : World) (hb : Below w.heap.size w W) => (ih s hms).1 s.bv W F ⟨so.out.hd.2.2.2.2.2.1.kept hb, fun k hk => (so.out.bodies k hk).kept hb⟩ hb15.out)
            have CE := hid (fun (W : World) (hb : Below w.heap.size w W) => (ih s hms).2 s.ev W F ⟨so.out.hd.2.2.2.2.2.2.kept hb, fun k hk => (so.out.elses k hk).kept hb⟩ hb16.out)
            rw [ebv.out] at CB
            rw [eev.out] at CE
            have s15 : Hid (Lx.length + (rowT s.body).length ≤ 2000000) := hid (by rw [q6.out]; omega)
            have cbv := Y.out.box.cell 54 (v := .slice pb s.body.length cb) (by rw [← ebv.out]; rfl)
            clear hax hjt
            go_upto_region 16 with (first
              | (go_at_call 13; refine (CB.out _ Y.out.txts.bel).mono ?_; rintro r y15 ⟨u15', rfl, hA⟩; replace Y := hid (Y.out.keep hA.bel); replace hA := hid hA)
              | (at_builtin; refine wl_app2 rfl _ _ rfl _ rfl Lx Y.out.txts _ rfl (fun _ => True) (rowT s.body) (hA.out.row hb15.out) s15.out ?_; intro p7 c7' z15 n7 L7 hL7 hn hg; replace Y := hid (Y.out.grew hn.out hg.out); clear hn hg hA))
            have q7 : Hid (L7.length = Lx.length + (rowT s.body).length) := hid (by rw [hL7.out, List.length_append])
            rw [q6.out] at q7
            have s16 : Hid (L7.length + (rowT s.els).length ≤ 2000000) := hid (by rw [q7.out]; omega)
            have cev := Y.out.box.cell 55 (v := .slice pe s.els.length ce) (by rw [← eev.out]; rfl)
            clear cbv
            go_wp2_with (first
              | (go_at_call 13; refine (CE.out _ Y.out.txts.bel).mono ?_; rintro r y16 ⟨u16', rfl, hA⟩; replace Y := hid (Y.out.keep hA.bel); replace hA := hid hA)
              | (at_builtin; refine wl_app2 rfl _ _ rfl _ rfl L7 Y.out.txts _ rfl (fun _ => True) (rowT s.els) (hA.out.row hb16.out) s16.out ?_; intro p8 c8' z16 n8 L8 hL8 hn hg; replace Y := hid (Y.out.grew hn.out hg.out); clear hn hg hA))
            go_roundw
            case rel => exact ⟨k + 1, p8, n8, c8', L8, by omega, by go_num, rfl, hid ⟨Y.out.txts, by rw [hL8.out, hL7.out, hL6.out, hL5.out, hL4.out, hL3.out, hL2.out, hL1.out, hL0.out, ht2.out, e7.out]; simp only [List.append_assoc]⟩⟩
            case measure => simp [intOf]; omega
    · have hkl : l.take k = l := List.take_of_length_le (by omega)
      rw [hkl] at hat
      go_wp2_with fail
      go_ret
      exact ⟨_, rfl, by rw [el.out, ← hat.out.2]; exact hat.out.1⟩

theorem refRows_any (s : St) : RowOk s.body ∧ RowOk s.els := by
  induction s using St.ind with
  | h s ih1 ih2 => exact ⟨refStmts_step s.body (fun k hk => ih1 k hk), refStmts_step s.els (fun k hk => ih2 k hk)⟩
theorem refStmts_any (l : List St) : RowOk l := refStmts_step l (fun s _ => refRows_any s)
end Go.Proofs.Ytfdfeiempeciiaa
