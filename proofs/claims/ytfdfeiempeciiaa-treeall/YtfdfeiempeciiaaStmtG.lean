/- The maker's stmt: Call. -/
import Derived.Test.YtfdfeiempeciiaaStmtBase
import Derived.Test.YtfdfeiempeciiaaStep
import Derived.Shelf.Abstract
namespace Go.Proofs.Ytfdfeiempeciiaa
open Go.ChangeShapes Go.WideShapes Go.ChangeAt Go.RowKit Go.Shelf
set_option linter.unusedVariables false
attribute [local go_sem ↓] Go.wp_at_zero Go.wp_at_succ

theorem Mk.of_heap {w W : World} {M : Nat} {v : Value} {N : List Int} {i l : Nat} (h : Mk w M v N i l) (e : W.heap = w.heap) : Mk W M v N i l := ⟨by rw [e]; exact h.obj, h.ints.keep (fun b _ => by rw [e]), h.few, h.here, h.left⟩
theorem Mk.drew {w : World} {M : Nat} {v : Value} {N : List Int} {i l : Nat} (h : Mk w M v N i l) : Mk w.drew M v N i l := ⟨h.obj, h.ints, h.few, h.here, h.left⟩

/-- What holds while a call's arguments are made. -/
structure GAt (w wr : World) (M : Nat) (v : Value) (N : List Int) (l S : Nat) (nm : ByteArray) (T : List Ex × Nat) (vo : Value) (acc : List Ex) (n i : Nat) : Prop where
  at_ : SAt w wr M v N l i S { St.zero with op := 11, nm := nm, av := vo, args := acc }
  own : wr.ownsRow (S + 1) 46 9 vo acc.length (acc.flatMap Ex.cells)
  ok : ∀ x ∈ acc, x.ok wr (fun g => S < g ∧ vo.ownBlock ≠ some g)
  rest : T = (acc.map Ex.bare ++ (exprsL N 1 n i).1, (exprsL N 1 n i).2)
  few : n + acc.length ≤ 1000

theorem SAt.grown {w wr w2 : World} {M : Nat} {v : Value} {N : List Int} {l i S : Nat} {s : St} {row : Option Nat} (h : SAt w wr M v N l i S s) (k : wr.grownBy w2 row) (hr : ∀ g, row = some g → S < g) : SAt w w2 M v N l i S s := by
  have h1 := h.gt
  have h2 := h.old
  refine ⟨h.made.grown k (fun g hg => by have := hr g hg; omega) h.old, ?_, ?_, h.gt, h.old⟩
  · exact (k.block _ h.res.lt (fun e => by have := hr _ e.symm; omega)).trans h.res
  · exact (k.block _ h.var.lt (fun e => by have := hr _ e.symm; omega)).trans h.var

/-- One argument more. -/
theorem GAt.next {w wr w4 w5 : World} {M : Nat} {v : Value} {N : List Int} {l S : Nat} {nm : ByteArray} {T : List Ex × Nat} {p : Option Addr} {acc : List Ex} {c n i : Nat} {x : Ex} {o : Obj} {g cap : Nat}
    (h : GAt w wr M v N l S nm T (.slice p acc.length c) acc (n + 1) i) (hm : Made wr.drew M v N l (exprM N 1 i).2 w4) (hx : x.ok w4 (fun b => wr.drew.heap.size ≤ b)) (hb : x.bare = (exprM N 1 i).1)
    (hown : w5.ownsRow (S + 1) 46 9 (.slice (some ⟨g, 0, none⟩) (acc.length + 1) cap) (acc.length + 1) (acc.flatMap Ex.cells ++ x.cells)) (hgrow : (w4.alloc o).grownBy w5 (Value.slice p acc.length c).ownBlock)
    (hat : (Value.slice p acc.length c).ownBlock = some g ∨ g = w4.heap.size + 1) :
    GAt w (w5.setCell ⟨S, 53, none⟩ (.slice (some ⟨g, 0, none⟩) (acc.length + 1) cap)) M v N l S nm T (.slice (some ⟨g, 0, none⟩) (acc.length + 1) cap) (acc ++ [x]) n (exprM N 1 i).2 := by
  have hm' : Made wr M v N l (exprM N 1 i).2 w4 := ⟨⟨hm.1.os, hm.1.tape, hm.1.output, hm.1.size, hm.1.block⟩, hm.2⟩
  have hx' : x.ok w4 (fun b => wr.heap.size ≤ b) := hx
  have zS := h.at_.var.lt
  have zM := h.at_.old
  have zg := h.at_.gt
  have z4 := hm'.1.size
  have hrow : ∀ b, (Value.slice p acc.length c).ownBlock = some b → S < b ∧ b < wr.heap.size := fun b hb => by
    have := own_lt h.own hb
    omega
  have A5 := ((h.at_.call hm').alloc o).grown hgrow (fun b hb => (hrow b hb).1)
  have A6 : SAt w (w5.setCell ⟨S, 53, none⟩ (.slice (some ⟨g, 0, none⟩) (acc.length + 1) cap)) M v N l (exprM N 1 i).2 S { St.zero with op := 11, nm := nm, av := .slice (some ⟨g, 0, none⟩) (acc.length + 1) cap, args := acc ++ [x] } :=
    A5.store (s' := { St.zero with op := 11, nm := nm, av := .slice (some ⟨g, 0, none⟩) (acc.length + 1) cap, args := acc ++ [x] }) (A5.var.set 53 _) (Touch.setCell (T := fun b => b = S) _ _ _ rfl)
  have keep : ∀ b, S < b → (Value.slice p acc.length c).ownBlock ≠ some b → b < w4.heap.size → (w5.setCell ⟨S, 53, none⟩ (.slice (some ⟨g, 0, none⟩) (acc.length + 1) cap)).heap[b]? = w4.heap[b]? := fun b h1 h2 h3 => by
    rw [Below.heap_setCell _ _ _ _ (by simp; omega), hgrow.block b (by simp; omega) (fun e => h2 e.symm), Below.heap_alloc _ _ _ h3]
  refine ⟨A6, ?_, fun y hy => ?_, ?_, by have := h.few; simp; omega⟩
  · have := ownsRow_setCell_below hown (a := ⟨S, 53, none⟩) (by simp) (.slice (some ⟨g, 0, none⟩) (acc.length + 1) cap)
    simpa using this
  · simp only [List.mem_append, List.mem_cons, List.not_mem_nil, or_false] at hy
    rcases hy with hy | rfl
    · have h1 := (h.ok y hy).keep (w' := w4) (fun b hb hl => hm'.1.block b hl (by omega))
      have h2 := (h.ok y hy).mono (G := fun b => (S < b ∧ (Value.slice p acc.length c).ownBlock ≠ some b) ∧ b < wr.heap.size) (fun b hb hl => ⟨hb, hl⟩)
      have h3 := h2.keep (w' := w4) (fun b hb hl => hm'.1.block b hl (by omega))
      have h4 := h3.keep (w' := w5.setCell ⟨S, 53, none⟩ (.slice (some ⟨g, 0, none⟩) (acc.length + 1) cap)) (fun b hb hl => keep b hb.1.1 hb.1.2 hl)
      exact h4.mono (fun b hb hl => ⟨hb.1.1, fun e => by
        simp [Value.ownBlock] at e
        subst e
        rcases hat with h | h
        · exact hb.1.2 h
        · omega⟩)
    · have h2 := hx'.mono (G := fun b => wr.heap.size ≤ b ∧ b < w4.heap.size) (fun b hb hl => ⟨hb, hl⟩)
      have h4 := h2.keep (w' := w5.setCell ⟨S, 53, none⟩ (.slice (some ⟨g, 0, none⟩) (acc.length + 1) cap)) (fun b hb hl => keep b (by omega) (fun e => by have := hrow b e; omega) hl)
      exact h4.mono (fun b hb hl => ⟨by omega, fun e => by
        simp [Value.ownBlock] at e
        subst e
        rcases hat with h | h
        · have := hrow _ h
          omega
        · omega⟩)
  · rw [h.rest, exprsL]
    simp [hb]

set_option maxRecDepth 100000 in
set_option maxHeartbeats 1000000 in
theorem stmt_call (w : World) (M : Nat) (v : Value) (N : List Int) (i l d : Nat) (hd : d ≤ 3) (h : Mk w M v N i l) (ho : pk N 11 i = 10) :
    Calls Try.prog 45 #[.pointer (some ⟨M, 0, none⟩), .int .i64 d] w fun e w' => ∃ r, e = .returned r ∧ StOut w w' r { St.zero with op := 11, nm := nmV (pk N 8 (nx N i)), args := (exprsL N 1 (pk N 3 (nx N (nx N i))) (nx N (nx N (nx N i)))).1 } ∧ Made w M v N l (exprsL N 1 (pk N 3 (nx N (nx N i))) (nx N (nx N (nx N i)))).2 w' := by
  have hlt := h.lt
  have C := fun o => pick_any (w.alloc o) M v N i l 11 (h.alloc o) (by omega) (by omega)
  rw [ho] at C
  have V := hid (VarAt.new w St.zero.cells 52)
  have hk := pk_lt N 3 (nx N (nx N i)) (by omega)
  have C1 := fun W hm => name_any W M v N (nx N i) l hm
  have C2 := fun W hm => pick_any W M v N (nx N (nx N i)) l 3 hm (by omega) (by omega)
  generalize hT : exprsL N 1 (pk N 3 (nx N (nx N i))) (nx N (nx N (nx N i))) = T at *
  replace hT := hid hT
  generalize pk N 3 (nx N (nx N i)) = k at *
  generalize nmV (pk N 8 (nx N i)) = nm at *
  clear h
  by_cases hd0 : d = 0
  all_goals
    try subst hd0
    go_enter Try.func45, Try.ntmps45
    go_wp2_with fail
    refine (C _).mono ?_
    rintro e w1 ⟨rfl, hm⟩
    replace V := hid (V.out.touch hm.1 (by omega))
    replace hm := hid hm.alloc
    clear C
    have zV := V.out.lt
    have A : Hid (SAt w (w1.alloc (.cells ({ St.zero with op := 11 } : St).cells.toArray 52)) M v N l (nx N i) w1.heap.size { St.zero with op := 11 }) := hid ⟨hm.out.new _, V.out.kept ((Below.refl _ _).alloc (Nat.le_refl _) _), VarAt.new _ _ _, zV, hlt⟩
    have offS : Hid (∀ u ∈ ({ St.zero with op := 11 } : St).cells, u.oneCell' = true) := hid (st_one rfl rfl rfl rfl rfl rfl rfl)
    clear V hm
    go_wp2_with (refine wl_store_new 52 _ _ rfl rfl w1 52 _ rfl w1.heap.size rfl rfl ({ St.zero with op := 11 } : St).cells rfl (St.agg _) rfl offS.out ?_)
    refine (C1 _ A.out.made.2).mono ?_
    rintro e w2 ⟨rfl, hm⟩
    replace A := hid (A.out.call hm)
    clear C1 hm
    go_wp2_with (refine wl_store_cell 9 _ _ rfl rfl w1.heap.size 1 rfl (.string nm) rfl info9 rfl _ _ A.out.var (by rw [St.len]; omega) ?_; intro w' hv' t'; rw [St.set_nm] at hv'; replace A := hid (A.out.store hv' t'); clear hv' t')
    refine (C2 _ A.out.made.2).mono ?_
    rintro e w3 ⟨rfl, hm⟩
    replace A := hid (A.out.call hm)
    clear C2 hm
    generalize hS : w1.heap.size = S at *
    clear hS offS
    go_wp2_with fail
    go_loopw [7] (fun vn wr => ∃ (acc : List Ex) (n i' : Nat) (vo : Value), vn = .int .i64 n ∧ Hid (GAt w wr M v N l S nm T vo acc n i')) (fun vn _ => (intOf vn).toNat)
    case atStart => exact ⟨[], k, nx N (nx N (nx N i)), .slice none 0 0, rfl, hid ⟨A.out, World.ownsRow_nil _ _ _ _, by simp, by rw [← hT.out]; simp, by simp; omega⟩⟩
    case round =>
      obtain ⟨acc, n, i', vo, rfl, hat⟩ := hrel
      clear A
      cases n with
      | zero =>
        have rr := hat.out.rest
        simp only [exprsL, List.append_nil] at rr
        replace rr := hid rr
        have ov := hid (RowAt.of_owns (F := fun b => S < b) hat.out.own (by have := hat.out.few; omega) (fun g hg => by have := own_lt hat.out.own hg; omega))
        obtain ⟨p, c, rfl⟩ := ov.out.form
        go_wp2_with (first
          | refine wl_load 52 _ rfl rfl S 0 rfl ({ St.zero with op := 11, nm := nm, av := .slice p acc.length c, args := acc } : St).cells hat.out.at_.var.range (St.agg _) ?_
          | (refine wl_store_part 52 _ _ rfl rfl w.heap.size 0 rfl ({ St.zero with op := 11, nm := nm, av := .slice p acc.length c, args := acc } : St).cells rfl (St.agg _) (st_one rfl rfl rfl rfl rfl rfl rfl) _ _ hat.out.at_.res (by rw [St.len, St.len]; omega) ?_; intro w9 V9 t9; replace V9 := hid V9; replace t9 := hid t9))
        rw [St.splice_all] at V9
        refine bodyPost_ret (results_cell_row rfl _ _ w.heap.size _ _ _ _ rfl V9.out Try.underlying52 rfl (by kernel_rfl)) rfl ?_
        have hup := t9.out.above (S := S) (by intro g hg; omega)
        rw [rr.out]
        refine ⟨_, rfl, ⟨{ St.zero with op := 11, nm := nm, av := .slice p acc.length c, args := acc }, rfl, ?_, ?_, empty_ne⟩, hat.out.at_.made.res t9.out (Nat.le_refl _) hlt⟩
        · exact (St.ok_iff _ _ _).2 ⟨⟨by simp [St.zero, I64], Rt.zero_ok _ _, Pl.zero_ok _ _, Ex.zero_ok _ _, ⟨(ov.out.keep hup).mono (fun g h1 h2 => by omega), fun x hx => ((hat.out.ok x hx).keep (fun g hg hl => hup g hg.1 hl)).mono (fun g h1 h2 => by omega)⟩, RowAt.nil _ _ _, RowAt.nil _ _ _⟩, by simp [St.zero], by simp [St.zero]⟩
        · rw [St.bare_eq]
          simp [St.zero, Rt.zero_bare, Pl.zero_bare, Ex.zero_bare]
      | succ n =>
        have hfew := hat.out.few
        obtain ⟨p, c, rfl⟩ : ∃ p c, vo = .slice p acc.length c := by
          rcases hat.out.own.2 with ⟨e, e2⟩ | ⟨g, cap, cur, e, _⟩
          · exact ⟨none, 0, by rw [e, e2]⟩
          · exact ⟨_, _, e⟩
        have C := fun W (e : W.heap = wr.heap) => expr_any M v N l 1 W i' (by omega) (hat.out.at_.made.2.of_heap e)
        replace C : ∀ W, W.heap = wr.heap → Calls Try.prog 54 #[.pointer (some ⟨M, 0, none⟩), .int .i64 1] W _ := C
        have ef : Hid (∀ args w, (callFunc 54 args).run Try.prog w = .ok (.enter 54 args) w) := hid (enters_of Try.func54 (by kernel_rfl) rfl)
        have c0 : wr.cell? ⟨S, 53, none⟩ = some (.slice p acc.length c) := hat.out.at_.var.cell 53 rfl
        have f0 : wr.frozen? ⟨S, 53, none⟩ = false := hat.out.at_.var.frozen 53
        have zS := hat.out.at_.var.lt
        have rr := hid hat.out.rest
        have hmx : acc.length + 1 ≤ maxLen := by simp only [maxLen]; omega
        obtain ⟨i0, hi, z0, z1, z2⟩ := info_parts info46
        go_wp2_with fail
        go_region_law
          (first
            | (refine step_call2 54 ef.out (by rfl) _ _ _ _ (by rfl) (.pointer (some ⟨M, 0, none⟩)) (.int .i64 1) (by rfl) (by rfl) _ (C _ rfl) ?_
               rintro r w4 ⟨⟨x, rfl, hx, hb, hz⟩, hm⟩
               have kc : w4.cell? ⟨S, 53, none⟩ = some (.slice p acc.length c) := (hm.1.at (g := S) zS (by omega) 53).trans c0
               have kf : w4.frozen? ⟨S, 53, none⟩ = false := (World.frozen?_of_block (w := wr) (a := ⟨S, 53, none⟩) (hm.1.block S zS (by omega))).trans f0
               replace hx := hid hx
               replace hm := hid hm
               replace hb := hid hb
               replace hz := hid hz
               have kcA : ∀ o, (w4.alloc o).cell? ⟨S, 53, none⟩ = some (.slice p acc.length c) := fun o => (Below.cell ((Below.refl _ w4).alloc (Nat.le_refl _) o) (p := ⟨S, 53, none⟩) (Nat.lt_of_lt_of_le zS hm.out.1.size)).trans kc
               have own4 := hid (own_keep hat.out.own (w' := w4) (fun g hg hl => hm.out.1.block g hl (by omega)))
               have ox := hid hx.out.row.one
               have zw : wr.heap.size ≤ w4.heap.size := hm.out.1.size
               obtain ⟨x1, x2, x3, x4, x5, x6, x7, x8, x9, x10⟩ := x
               simp only [Ex.val, Ex.cells])
            | (refine step_append_lies _ (by rfl) _ _ _ (by rfl) (S + 1) 46 i0 _ 9 104 Try.underlying44 hi z0 z1 z2 rfl (by omega) (.slice p acc.length c) acc.length (acc.flatMap Ex.cells) (by rfl) (own4.out.alloc _)
                 ⟨w4.heap.size, 0, none⟩ 1 1 (⟨x1, x2, x3, x4, x5, x6, x7, x8, x9, x10⟩ : Ex).cells (by rfl) (by rfl) (news_new w4 _ 46) (ex_one ox.out) (by omega) hmx (by omega) (by simp; omega) (w4.heap.size + 1) (by simp) ?_
               intro g cap w5 hown hgrow hatg hltg
               have kc5 : w5.cell? ⟨S, 53, none⟩ = some (.slice p acc.length c) := by
                 rw [hgrow.cell_far _ (by simp; omega) (fun e => by have := (own_lt (g := S) own4.out e.symm).1; omega), (Below.cell ((Below.refl _ w4).alloc (Nat.le_refl _) _) (p := ⟨S, 53, none⟩) (by simp; omega))]
                 exact kc
               have kf5 : w5.frozen? ⟨S, 53, none⟩ = false := by
                 rw [hgrow.frozen_far _ (by simp; omega) (fun e => by have := (own_lt (g := S) own4.out e.symm).1; omega), (Below.frozen ((Below.refl _ w4).alloc (Nat.le_refl _) _) (p := ⟨S, 53, none⟩) (by simp; omega))]
                 exact kf
               replace hown := hid hown
               replace hgrow := hid hgrow))
        all_goals
          replace hat := hid (hat.out.next hm.out hx.out hb.out hown.out hgrow.out hatg)
          go_wp2_with fail
          go_roundw
          case rel => exact ⟨_, n, _, _, by go_num, hat⟩
          case measure => simp [intOf]
end Go.Proofs.Ytfdfeiempeciiaa
