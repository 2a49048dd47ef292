/- The contract of the document's Expr. -/
import Derived.Test.YtfdfeiempeciiaaJoinC
namespace Go.Proofs.Ytfdfeiempeciiaa
open Go.ChangeShapes Go.WideShapes Go.ChangeAt Go.RowKit
set_option linter.unusedVariables false

/-- The box of an expression, in a world. -/
def BoxE (B : Nat) (e : Ex) (kv : Value) (W : World) : Prop := W.cell? ⟨B, 0, none⟩ = some (.int .i64 e.op) ∧ W.cell? ⟨B, 1, none⟩ = some (.int .i64 e.bin) ∧ W.cell? ⟨B, 2, none⟩ = some (.int .u64 e.n) ∧ W.cell? ⟨B, 3, none⟩ = some (.int .i64 e.tk) ∧ W.cell? ⟨B, 4, none⟩ = some (.string e.tr) ∧ W.cell? ⟨B, 5, none⟩ = some (.string e.nm) ∧ W.cell? ⟨B, 6, none⟩ = some kv
theorem boxE_of {W : World} {B : Nat} {e : Ex} (h : VarAt W B e.cells 46) : BoxE B e e.kv W := ⟨h.cell 0 rfl, h.cell 1 rfl, h.cell 2 rfl, h.cell 3 rfl, h.cell 4 rfl, h.cell 5 rfl, h.cell 6 rfl⟩
theorem BoxE.next {B : Nat} {e : Ex} {kv : Value} {W0 W w' : World} (h : BoxE B e kv W0) (hb : Below W.heap.size W w') (eh : W.heap = W0.heap) : BoxE B e kv w' := by
  have hB : B < W.heap.size := by rw [eh]; exact World.block_lt_of_cell? W0 _ h.1
  have k : ∀ o, w'.cell? ⟨B, o, none⟩ = W0.cell? ⟨B, o, none⟩ := fun o => (hb.cell (p := ⟨B, o, none⟩) hB).trans (World.cell?_of_block (w := W0) (w' := W) (a := ⟨B, o, none⟩) (by rw [eh]))
  obtain ⟨h0, h1, h2, h3, h4, h5, h6⟩ := h
  exact ⟨(k 0).trans h0, (k 1).trans h1, (k 2).trans h2, (k 3).trans h3, (k 4).trans h4, (k 5).trans h5, (k 6).trans h6⟩
theorem BoxE.alloc {B : Nat} {e : Ex} {kv : Value} {W : World} (h : BoxE B e kv W) (o : Obj) : BoxE B e kv (W.alloc o) := h.next ((Below.refl _ _).alloc (Nat.le_refl _) o) rfl
/-- Steps below, through draws. -/
theorem bel_step {w W X w' : World} (h : Below w.heap.size w W) (hb : Below X.heap.size X w') (e : X.heap = W.heap) (e1 : X.os = W.os) (e2 : X.tape = W.tape) (e3 : X.output = W.output) : Below w.heap.size w w' :=
  ⟨hb.os.trans (e1.trans h.os), hb.tape.trans (e2.trans h.tape), hb.output.trans (e3.trans h.output), by have := hb.size; have := h.size; rw [e] at *; omega, fun b hl => by
    rw [hb.block b (by rw [e]; have := h.size; omega), e]
    exact h.block b hl⟩

def Ex.hd8 (e : Ex) : List ByteArray := [sExpr, txt e.op, txt e.bin, txt (wrap64 e.n), txt e.tk, e.tr, e.nm, txt e.kids.length]

set_option maxRecDepth 100000 in
set_option maxHeartbeats 2000000 in
theorem refExpr_step (e : Ex) (ih : ∀ k ∈ e.kids, ∀ (w : World) (F : Nat → Prop), k.ok w F → k.texts.length ≤ 2000000 → Calls Try.prog 15 #[k.val] w fun r w' => ∃ v, r = .returned v ∧ Txts w w' v k.texts)
    (w : World) (F : Nat → Prop) (h : e.ok w F) (hl : e.texts.length ≤ 2000000) : Calls Try.prog 15 #[e.val] w fun r w' => ∃ v, r = .returned v ∧ Txts w w' v e.texts := by
  have V := VarAt.new w e.cells 46
  obtain ⟨p, c, hkv⟩ := h.row.form
  have hbx := boxE_of V
  rw [hkv] at hbx
  have hbx' := hbx
  obtain ⟨c0, c1, c2, c3, c4, c5, c6⟩ := hbx'
  replace hbx := hid hbx
  clear V
  have hrow := h.row
  rw [hkv] at hrow
  replace hrow := hid hrow
  replace hkv := hid hkv
  have hkid := hid h.kid
  have T := fun n W => text_any n W
  have Bel : Hid (Below w.heap.size w (w.alloc (.cells e.cells.toArray 46))) := hid ((Below.refl _ _).alloc (Nat.le_refl _) _)
  have et := hid (Ex.texts_eq e)
  rw [et.out] at hl
  simp only [List.length_append, List.length_cons, List.length_nil] at hl
  clear h
  unfold Ex.val
  go_enter Try.func15, Try.ntmps15
  go_wp2_with fail
  go_region_held3 (fun w' => w'.cell? ⟨w.heap.size, 0, none⟩ = some (.int .i64 e.op) ∧ w'.cell? ⟨w.heap.size, 1, none⟩ = some (.int .i64 e.bin) ∧ w'.cell? ⟨w.heap.size, 2, none⟩ = some (.int .u64 e.n) ∧ w'.cell? ⟨w.heap.size, 3, none⟩ = some (.int .i64 e.tk) ∧ w'.cell? ⟨w.heap.size, 4, none⟩ = some (.string e.tr) ∧ w'.cell? ⟨w.heap.size, 5, none⟩ = some (.string e.nm) ∧ w'.cell? ⟨w.heap.size, 6, none⟩ = some (.slice p e.kids.length c))
    (first | go_keep | exact hbx.out)
    ((go_at_call 34; refine (T _ _).mono ?_; rintro r w' ⟨rfl, hb⟩; replace hbx := hid (hbx.out.next hb rfl); have hbz := hbx.out; simp only [BoxE] at hbz; replace Bel := hid (bel_step Bel.out hb rfl rfl rfl rfl); clear hb))
  all_goals
    clear hbz
    have A : Hid (Txts w (w'.alloc (.cells #[.string { data := #[101, 120, 112, 114] }, .string (txt e.op), .string (txt e.bin), .string (txt (IntKind.i64.wrap e.n)), .string (txt e.tk), .string e.tr, .string e.nm, .string (txt e.kids.length)] 9)) (.slice (some ⟨w'.heap.size, 0, none⟩) 8 8) e.hd8) := hid (by
      have := Txts.made (w := w) e.hd8 Bel.out (by simp [Ex.hd8])
      unfold Ex.hd8 at this
      rw [← IntWalk.i64_left] at this
      unfold Ex.hd8
      rw [← IntWalk.i64_left]
      exact this)
    have bxa := (hbx.out.alloc (.cells #[.string { data := #[101, 120, 112, 114] }, .string (txt e.op), .string (txt e.bin), .string (txt (IntKind.i64.wrap e.n)), .string (txt e.tk), .string e.tr, .string e.nm, .string (txt e.kids.length)] 9)).2.2.2.2.2.2
    clear hbx c0 c1 c2 c3 c4 c5 c6 Bel
    generalize (w'.alloc (.cells #[.string { data := #[101, 120, 112, 114] }, .string (txt e.op), .string (txt e.bin), .string (txt (IntKind.i64.wrap e.n)), .string (txt e.tk), .string e.tr, .string e.nm, .string (txt e.kids.length)] 9)) = W9 at *
    rw [IntWalk.i64_left]
    go_wp2_with fail
    go_loopw [3, 33] (fun vo vi wr => ∃ (k : Nat) (pv : Option Addr) (cv : Nat), k ≤ e.kids.length ∧ vi = .int .i64 k ∧ vo = .slice pv (e.hd8 ++ (e.kids.take k).flatMap Ex.texts).length cv ∧ Hid (Txts w wr (.slice pv (e.hd8 ++ (e.kids.take k).flatMap Ex.texts).length cv) (e.hd8 ++ (e.kids.take k).flatMap Ex.texts))) (fun _ vi _ => e.kids.length - (intOf vi).toNat)
    case atStart => exact ⟨0, some ⟨w'.heap.size, 0, none⟩, 8, Nat.zero_le _, rfl, by simp [Ex.hd8], hid (by simpa [Ex.hd8] using A.out)⟩
    case round =>
      obtain ⟨k, pv, cv, hk, rfl, rfl, hat⟩ := hrel
      by_cases hlt : k < e.kids.length
      · obtain ⟨x, hx⟩ : ∃ x, e.kids[k]? = some x := ⟨_, List.getElem?_eq_getElem hlt⟩
        obtain ⟨g, cap, eg, hF, hgl, hrg⟩ := RowAt.elem Ex.len hrow.out hx
        obtain ⟨rfl, -, rfl⟩ := Value.slice.inj eg
        have xok := hid (Ex.ok.kept (hkid.out x (List.mem_of_getElem? hx)) hat.out.bel)
        have rg := hid (rangeAt_kept hrg hat.out.bel)
        have hk0 : (0 : Int) ≤ (k : Int) := Int.natCast_nonneg _
        have hk1 : (k : Int) < (e.kids.length : Int) := by omega
        have ht1 := take_len Ex.texts e.kids k x hx
        have ht2 := hid (take_flat Ex.texts e.kids k x hx)
        have hx8 : e.hd8.length = 8 := rfl
        have hn47 := hrow.out.1.2
        have C := hid (ih x (List.mem_of_getElem? hx) (wr.alloc (.cells x.cells.toArray 46)) F (Ex.ok.kept xok.out ((Below.refl _ _).alloc (Nat.le_refl _) _)) (by omega))
        clear eg hrg A bxa
        have zx : Hid (w.heap.size ≤ wr.heap.size) := hid hat.out.bel.size
        have na := hid (fun (W : World) (b : Below (wr.alloc (.cells x.cells.toArray 46)).heap.size (wr.alloc (.cells x.cells.toArray 46)) W) => hat.out.keep (Below.over ((Below.refl _ _).alloc (Nat.le_refl _) (.cells x.cells.toArray 46)) b))
        generalize hL : e.hd8 ++ (e.kids.take k).flatMap Ex.texts = L at *
        have hLl : L.length + x.texts.length ≤ 2000000 := by rw [← hL]; simp only [List.length_append, hx8]; omega
        have hxl : x.texts.length ≤ 2000000 := by omega
        clear hx8 ht1
        replace hL := hid hL
        go_wp2_with (first
          | refine wl_load 46 _ rfl rfl g (k * 9) rfl x.cells rg.out x.agg ?_
          | refine wl_store_new 46 _ _ rfl rfl wr 46 _ rfl wr.heap.size rfl rfl x.cells rfl x.agg rfl xok.out.one ?_
          | refine wl_load 46 _ rfl rfl wr.heap.size 0 rfl x.cells (rangeAt_new wr x.cells 46) x.agg ?_
          | (go_at_call 15
             refine C.out.mono ?_
             rintro r w1 ⟨v1, rfl, hA⟩
             replace hA := hid hA
             have hL1 := hid (na.out _ hA.out.bel)
             clear C na)
          | (at_builtin
             refine wl_app rfl _ _ rfl _ rfl L hL1.out _ rfl (fun _ => True) x.texts (hA.out.row hxl) hLl ?_
             intro pn cn w2 hn _
             replace hn := hid hn))
        go_roundw
        case rel =>
          have eL : e.hd8 ++ (e.kids.take (k + 1)).flatMap Ex.texts = L ++ x.texts := by rw [ht2.out, ← hL.out, List.append_assoc]
          refine ⟨k + 1, pn, cn, by omega, by go_num, by rw [eL]; simp, hid ?_⟩
          rw [eL]
          have := hn.out
          simpa using this
        case measure => simp [intOf]; omega
      · have hkl : e.kids.take k = e.kids := List.take_of_length_le (by omega)
        rw [hkl] at hat
        rw [hkl]
        have eE : Hid (e.hd8 ++ e.kids.flatMap Ex.texts = e.texts) := hid (by rw [et.out]; rfl)
        rw [eE.out] at hat
        rw [eE.out]
        go_wp2_with fail
        go_ret
        exact ⟨_, rfl, hat.out⟩

theorem refExpr_any (e : Ex) : ∀ (w : World) (F : Nat → Prop), e.ok w F → e.texts.length ≤ 2000000 → Calls Try.prog 15 #[e.val] w fun r w' => ∃ v, r = .returned v ∧ Txts w w' v e.texts := by
  induction e using Ex.ind with
  | h e ih => exact fun w F h hl => refExpr_step e ih w F h hl
end Go.Proofs.Ytfdfeiempeciiaa
