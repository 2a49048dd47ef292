/- plain: what holds of a code of which it says yes. -/
import Derived.Test.YtkdpcaoocmbbhaaDoorM12
import Derived.Test.YtkdpcaoocmbbhaaDoorTy
import Derived.Test.YtkdpcaoocmbbhaaDoorTg
import Derived.Deep.LoopGhost
import Derived.Deep.DeepCutAuto
namespace Go.Proofs.YtkdpcaoocmbbhaaDoor
open Go.ChangeShapes Go.WideShapes Go.ChangeAt Go.RowKit Go.Deep
set_option linter.unusedVariables false
set_option linter.unusedSimpArgs false

structure PlW (W : World) (c : Cd) (b : Bd) (x : Ins) (v0 : Value) (bb xb tb : Nat) (l : Loc) (X : World) : Prop where
  b0 : VarAt X W.heap.size [c.rv, c.gv, c.tv, c.ev, c.cv] 28
  bt : VarAt X bb [v0, b.cv, .int .i64 b.most] 40
  bx : VarAt X xb [.int .i64 x.op, .int .i64 x.dst, .int .i64 x.src, .int .i64 x.rc, .int .i64 x.n, .int .i64 x.to, x.iv, x.xv] 50
  bo : VarAt X tb [.int .i64 l.kind, .int .i64 l.rc, .bool l.once] 56
  bel : Below W.heap.size W X
  lt : W.heap.size < tb ∧ bb < tb ∧ xb < tb
theorem PlW.kept {W X X' : World} {c : Cd} {b : Bd} {x : Ins} {v0 : Value} {bb xb tb : Nat} {l : Loc} (h : PlW W c b x v0 bb xb tb l X) (k : Below X.heap.size X X') : PlW W c b x v0 bb xb tb l X' := ⟨h.b0.kept k, h.bt.kept k, h.bx.kept k, h.bo.kept k, h.bel.trans (k.mono h.bel.size), h.lt⟩
theorem PlW.stored {W X X' : World} {c : Cd} {b : Bd} {x : Ins} {v0 : Value} {bb xb tb : Nat} {l m : Loc} (h : PlW W c b x v0 bb xb tb l X) (hv : VarAt X' tb [.int .i64 m.kind, .int .i64 m.rc, .bool m.once] 56) (ht : Turned tb X X') : PlW W c b x v0 bb xb tb m X' := by
  have := h.lt
  exact ⟨ht.var h.b0 (by omega), ht.var h.bt (by omega), ht.var h.bx (by omega), hv, ht.below h.bel (by omega), h.lt⟩
theorem PlW.side {W X X' : World} {c : Cd} {b : Bd} {x : Ins} {v0 : Value} {bb xb tb p : Nat} {l : Loc} (h : PlW W c b x v0 bb xb tb l X) (ht : Turned p X X') (hp : tb < p) : PlW W c b x v0 bb xb tb l X' := by
  have := h.lt
  exact ⟨ht.var h.b0 (by omega), ht.var h.bt (by omega), ht.var h.bx (by omega), ht.var h.bo (by omega), ht.below h.bel (by omega), h.lt⟩
/-- So far all goes by names alone. -/
def PlU (c : Cd) (i j : Nat) : Prop := ∀ (i' : Nat) (b' : Bd) (j' : Nat) (x' : Ins), c.threads[i']? = some b' → b'.code[j']? = some x' → (i' < i ∨ (i' = i ∧ j' < j)) → PlainI c b' x'
theorem PlU.start (c : Cd) : PlU c 0 0 := fun i' b' j' x' _ _ h => by omega
theorem PlU.step {c : Cd} {i j : Nat} {b : Bd} {x : Ins} (h : PlU c i j) (hb : c.threads[i]? = some b) (hx : b.code[j]? = some x) (hp : PlainI c b x) : PlU c i (j + 1) := fun i' b' j' x' h1 h2 h3 => by
  by_cases q : i' = i ∧ j' = j
  · obtain ⟨rfl, rfl⟩ := q
    rw [hb] at h1; cases h1
    rw [hx] at h2; cases h2
    exact hp
  · exact h i' b' j' x' h1 h2 (by omega)
theorem PlU.turn {c : Cd} {i : Nat} {b : Bd} (h : PlU c i b.code.length) (hb : c.threads[i]? = some b) : PlU c (i + 1) 0 := fun i' b' j' x' h1 h2 h3 => h i' b' j' x' h1 h2 (by
  by_cases q : i' = i
  · subst q
    rw [hb] at h1; cases h1
    have := (List.getElem?_eq_some_iff.1 h2).1
    exact .inr ⟨rfl, this⟩
  · omega)
theorem PlU.ends {c : Cd} (h : PlU c c.threads.length 0) : PlainP c := fun i b j x hb hx => h i b j x hb hx (.inl (List.getElem?_eq_some_iff.1 hb).1)
theorem item_slot {c : Cd} {w : World} (hc : c.okW w) (g : GoodP c) {i j : Nat} {t : Bd} {x : Ins} (ht : c.threads[i]? = some t) (hx : t.code[j]? = some x) : ∀ y ∈ x.items, (y.op == 2) = true → 0 ≤ y.n ∧ y.n.toNat < t.slots.length := by
  have F := ins_facts g ht hx
  obtain ⟨u1, u2⟩ := uses_ok F (ins_okw hc ht hx) (g.ths i t ht).1
  intro y hy ho
  refine ⟨(u2 y hy ho).1, ?_⟩
  cases hI : hasI x.op with
  | false => rw [F.no hI] at hy; cases hy
  | true =>
    have := can_slot ((good_can (F.it hI)).2 y hy) ho
    have := (u2 y hy ho).1
    omega
def PlainS (c : Cd) (W : World) (e : Ending) (W' : World) : Prop := ∃ q, e = .returned (.bool q) ∧ (q = true → PlainP c) ∧ Below W.heap.size W W'

set_option maxRecDepth 100000 in
set_option maxHeartbeats 4000000 in
theorem plain_any {c : Cd} {W : World} (hc : c.okW W) (g : GoodP c) : Calls Tryd.prog 15 #[.agg c.cells.toArray] W (PlainS c W) := by
  obtain ⟨ta, tp, te, htr⟩ := RowOf.at hc.2.2.1
  have HTR := hid htr
  have TE := hid te
  have HC := hid hc
  have HG := hid g
  have V0 := hid (VarAt.new W [c.rv, c.gv, c.tv, c.ev, c.cv] 28)
  have BX := hid ((Below.refl W.heap.size W).alloc (Nat.le_refl _) (.cells #[c.rv, c.gv, c.tv, c.ev, c.cv] 28))
  have PU := hid (PlU.start c)
  simp only [Cd.cells]
  have hnT := g.l3
  clear hc g htr te
  go_enter Tryd.func15, Tryd.ntmps15
  go_upto_region 1 with fail
  generalize hY : W.alloc (.cells #[c.rv, c.gv, c.tv, c.ev, c.cv] 28) = Y at *
  have d2 := V0.out.cell 2 rfl
  rw [TE.out] at d2
  clear hY
  go_wp2_with fail
  go_loopw [12] (fun t wr => ∃ i : Nat, t = .int .i64 i ∧ i ≤ c.threads.length ∧ Hid (VarAt wr W.heap.size [c.rv, c.gv, c.tv, c.ev, c.cv] 28) ∧ Hid (Below W.heap.size W wr) ∧ Hid (PlU c i 0)) (fun t _ => c.threads.length - (intOf t).toNat)
  case atStart => exact ⟨0, rfl, by omega, V0, BX, PU⟩
  case round =>
    clear d2 V0 BX PU
    obtain ⟨i, rfl, hi, V0, BX, PU⟩ := hrel
    obtain ⟨wo, rfl⟩ : ∃ wo : World, wo = wr := ⟨wr, rfl⟩
    by_cases hin : i < c.threads.length
    · obtain ⟨b, thb, toff, hb, rfl, tlt, tra, tok⟩ := HTR.out i hin
      obtain ⟨ac, pc, ec, hcr⟩ := RowOf.at tok.2.2
      obtain ⟨sa, sp, es, hsr⟩ := locs_at tok.2.1
      have c0 : W.cell? ⟨thb, toff + i * 3, none⟩ = some b.sv := tra 0 _ rfl
      have c1 : W.cell? ⟨thb, toff + i * 3 + 1, none⟩ = some b.cv := tra 1 _ rfl
      have c2 : W.cell? ⟨thb, toff + i * 3 + 2, none⟩ = some (.int .i64 b.most) := tra 2 _ rfl
      rw [es] at c0
      rw [ec] at c1
      rw [← BX.out.cell tlt] at c0 c1 c2
      have hnK := (HG.out.ths i b hb).2.2.2.2.1
      have HSR := hid hsr
      have HB := hid hb
      have HCR := hid hcr
      have BK := (Below.refl wo.heap.size wo).alloc (Nat.le_refl _) (.cells #[.slice sa b.slots.length sp, .slice ac b.code.length pc, .int .i64 b.most] 40)
      have VB := hid (VarAt.new wo [.slice sa b.slots.length sp, .slice ac b.code.length pc, .int .i64 b.most] 40)
      have lto := V0.out.lt
      replace V0 := hid (V0.out.kept BK)
      replace BX := hid (BX.out.trans (BK.mono BX.out.size))
      have hiI : (i : Int) < (c.threads.length : Int) := by omega
      have EC := hid ec
      generalize hK' : b.code.length = nK at *
      replace hK' := hid hK'
      generalize hbb : wo.heap.size = bb at *
      clear tra tok es ec BK hb hcr hsr
      go_wp2_with fail
      go_loopw [19] (fun t wr => ∃ j : Nat, t = .int .i64 j ∧ j ≤ nK ∧ Hid (VarAt wr W.heap.size [c.rv, c.gv, c.tv, c.ev, c.cv] 28) ∧ Hid (VarAt wr bb [.slice sa b.slots.length sp, .slice ac nK pc, .int .i64 b.most] 40) ∧ Hid (Below W.heap.size W wr) ∧ Hid (PlU c i j)) (fun t _ => nK - (intOf t).toNat)
      case atStart => exact ⟨0, rfl, by omega, V0, VB, BX, PU⟩
      case round =>
        clear V0 VB BX PU c0 c1 c2
        obtain ⟨j, rfl, hj, V0, VB, BX, PU⟩ := hrel
        by_cases hjn : j < nK
        · obtain ⟨x, xb0, xoff, hx, rfl, xlt, xra, xok⟩ := HCR.out j hjn
          have x0 : W.cell? ⟨xb0, xoff + j * 8, none⟩ = some (.int .i64 x.op) := xra 0 _ rfl
          have x1 : W.cell? ⟨xb0, xoff + j * 8 + 1, none⟩ = some (.int .i64 x.dst) := xra 1 _ rfl
          have x2 : W.cell? ⟨xb0, xoff + j * 8 + 2, none⟩ = some (.int .i64 x.src) := xra 2 _ rfl
          have x3 : W.cell? ⟨xb0, xoff + j * 8 + 3, none⟩ = some (.int .i64 x.rc) := xra 3 _ rfl
          have x4 : W.cell? ⟨xb0, xoff + j * 8 + 4, none⟩ = some (.int .i64 x.n) := xra 4 _ rfl
          have x5 : W.cell? ⟨xb0, xoff + j * 8 + 5, none⟩ = some (.int .i64 x.to) := xra 5 _ rfl
          have x6 : W.cell? ⟨xb0, xoff + j * 8 + 6, none⟩ = some x.iv := xra 6 _ rfl
          have x7 : W.cell? ⟨xb0, xoff + j * 8 + 7, none⟩ = some x.xv := xra 7 _ rfl
          rw [← BX.out.cell xlt] at x0 x1 x2 x3 x4 x5 x6 x7
          have HX := hid hx
          have F := hid (ins_facts HG.out HB.out hx)
          have OKX := hid xok
          have IS := hid (item_slot HC.out HG.out HB.out hx)
          obtain ⟨ai, pi, ei⟩ := xok.2.1.form
          obtain ⟨ax, px, ex⟩ := xok.2.2.form
          have EI := hid ei
          rw [ei] at x6
          rw [ex] at x7
          have hjI : (j : Int) < (nK : Int) := by omega
          have BK := below2 wr (.cells #[.int .i64 x.op, .int .i64 x.dst, .int .i64 x.src, .int .i64 x.rc, .int .i64 x.n, .int .i64 x.to, .slice ai x.items.length pi, .slice ax x.index.length px] 50) (.cells #[.int .i64 0, .int .i64 0, .bool false] 56)
          have lb := VB.out.lt
          have l0 := V0.out.lt
          have VX := (VarAt.new wr [.int .i64 x.op, .int .i64 x.dst, .int .i64 x.src, .int .i64 x.rc, .int .i64 x.n, .int .i64 x.to, .slice ai x.items.length pi, .slice ax x.index.length px] 50).past (.cells #[.int .i64 0, .int .i64 0, .bool false] 56)
          have VT := VarAt.new (wr.alloc (.cells #[.int .i64 x.op, .int .i64 x.dst, .int .i64 x.src, .int .i64 x.rc, .int .i64 x.n, .int .i64 x.to, .slice ai x.items.length pi, .slice ax x.index.length px] 50)) [.int .i64 0, .int .i64 0, .bool false] 56
          simp only [World.size_alloc] at VT
          have PW : Hid (PlW W c b x (.slice sa b.slots.length sp) bb wr.heap.size (wr.heap.size + 1) Loc.z _) := hid ⟨V0.out.kept BK, by rw [EC.out]; exact VB.out.kept BK, by rw [ei, ex]; exact VX, VT, BX.out.trans (BK.mono BX.out.size), ⟨by omega, by omega, by omega⟩⟩
          clear xra xok ei hx BK VX VT V0 VB BX lb l0 ex
          go_upto_block 4 with fail
          clear x0 x1 x2 x3 x4 x5 x6 x7
          generalize hxb : wr.heap.size = xb at *
          go_cut [] (fun wx => ∃ l, l = toOf c b x ∧ Hid (PlW W c b x (.slice sa b.slots.length sp) bb xb (xb + 1) l wx))
          case first =>
            by_cases h1 : x.op = 1
            · have h1b : (x.op == 1) = true := by simpa using h1
              obtain ⟨d, hd, hdl⟩ := F.out.d (by rw [h1]; rfl)
              obtain ⟨l, hl⟩ : ∃ l, b.slots[d]? = some l := ⟨b.slots[d], by simp [hdl]⟩
              have hto : l = toOf c b x := by unfold toOf slotOf; rw [if_pos h1, hd, Int.toNat_natCast]; simp [List.getD, hl]
              obtain ⟨lb, lo, rfl, llt, -, k0, k1, k2⟩ := HSR.out d l hl
              rw [← PW.out.bel.cell llt] at k0 k1 k2
              have b0' := PW.out.bt.cell 0 rfl
              have hx1 := PW.out.bx.cell 1 (v := .int .i64 (d : Int)) (by rw [← hd]; rfl)
              have hdI : (d : Int) < (b.slots.length : Int) := by omega
              clear hl h1 hd
              replace hto := hid hto
              go_wp2_with (refine wl_store_box 56 _ _ rfl rfl (xb + 1) rfl [.int .i64 l.kind, .int .i64 l.rc, .bool l.once] rfl size56 (loc_ones l) _ _ PW.out.bo rfl rfl ?_; intro X1 hv ht)
              have PZ := hid (PW.out.stored hv ht)
              go_meet
              case rel => exact ⟨l, hto.out, PZ⟩
            · have h1b : (x.op == 1) = false := by simpa using h1
              by_cases h5 : x.op = 5
              · have h5b : (x.op == 5) = true := by simpa using h5
                obtain ⟨d, hd, hdl⟩ := F.out.g (.inr h5)
                obtain ⟨l, hl⟩ : ∃ l, c.globs[d]? = some l := ⟨c.globs[d], by simp [hdl]⟩
                have hto : l = toOf c b x := by unfold toOf globAt; rw [if_neg h1, if_pos h5, hd, Int.toNat_natCast]; simp [List.getD, hl]
                obtain ⟨ga, gp, ge, hgr⟩ := locs_at HC.out.2.1
                obtain ⟨lb, lo, rfl, llt, -, k0, k1, k2⟩ := hgr d l hl
                rw [← PW.out.bel.cell llt] at k0 k1 k2
                have b1' := PW.out.b0.cell 1 (v := .slice (some ⟨lb, lo, none⟩) c.globs.length gp) (by rw [← ge]; rfl)
                have hx4 := PW.out.bx.cell 4 (v := .int .i64 (d : Int)) (by rw [← hd]; rfl)
                have hdI : (d : Int) < (c.globs.length : Int) := by omega
                clear hl h1 h5 hd ge hgr
                replace hto := hid hto
                go_wp2_with (refine wl_store_box 56 _ _ rfl rfl (xb + 1) rfl [.int .i64 l.kind, .int .i64 l.rc, .bool l.once] rfl size56 (loc_ones l) _ _ PW.out.bo rfl rfl ?_; intro X1 hv ht)
                have PZ := hid (PW.out.stored hv ht)
                go_meet
                case rel => exact ⟨l, hto.out, PZ⟩
              · have h5b : (x.op == 5) = false := by simpa using h5
                by_cases h6 : x.op = 6
                · have h6b : (x.op == 6) = true := by simpa using h6
                  obtain ⟨r, n, hr, hrl, hn, hnl⟩ := F.out.f (.inr h6)
                  obtain ⟨q, hq⟩ : ∃ q, c.recs[r]? = some q := ⟨c.recs[r], by simp [hrl]⟩
                  have eq : c.recs.getD r Rl.z = q := by simp [List.getD, hq]
                  rw [eq] at hnl
                  obtain ⟨l, hl⟩ : ∃ l, q.flds[n]? = some l := ⟨q.flds[n], by simp [hnl]⟩
                  have hto : l = toOf c b x := by unfold toOf fieldAt; rw [if_neg h1, if_neg h5, if_pos h6, hr, hn, Int.toNat_natCast, Int.toNat_natCast, eq]; simp [List.getD, hl]
                  obtain ⟨ra, rp, re, hrr⟩ := RowOf.at HC.out.1
                  obtain ⟨q', rb, ro, hq', rfl, rlt0, hra, okq⟩ := hrr r hrl
                  rw [hq] at hq'; cases hq'
                  obtain ⟨fa, fp, fe, hgr⟩ := locs_at okq
                  obtain ⟨fb, fo, rfl, flt0, _, c00, c10, c20⟩ := hgr n l hl
                  have cr0 : W.cell? ⟨rb, ro + r, none⟩ = some (.slice (some ⟨fb, fo, none⟩) q.flds.length fp) := by
                    have := hra 0 _ rfl
                    rw [Nat.mul_one, fe] at this
                    exact this
                  have cr := hid cr0
                  have c0 := hid c00
                  have c1 := hid c10
                  have c2 := hid c20
                  have RE := hid re
                  have rlt := hid rlt0
                  have flt := hid flt0
                  have hnI : (n : Int) < (q.flds.length : Int) := by omega
                  have hrI : (r : Int) < (c.recs.length : Int) := by omega
                  have hx3 : [Value.int .i64 x.op, .int .i64 x.dst, .int .i64 x.src, .int .i64 x.rc, .int .i64 x.n, .int .i64 x.to, x.iv, x.xv][3]? = some (.int .i64 (r : Int)) := by rw [← hr]; rfl
                  have hx4 : [Value.int .i64 x.op, .int .i64 x.dst, .int .i64 x.src, .int .i64 x.rc, .int .i64 x.n, .int .i64 x.to, x.iv, x.xv][4]? = some (.int .i64 (n : Int)) := by rw [← hn]; rfl
                  replace hx3 := hid hx3
                  replace hx4 := hid hx4
                  clear hl h1 h5 h6 hr hn eq hq re hrr hra okq fe hgr cr0 c00 c10 c20 rlt0 flt0
                  replace hto := hid hto
                  go_wp2_with fail
                  replace PW := hid (PW.out.kept (Below.refl _ _).drew)
                  refine wp_region_held_drew (S := fun (w' : World) => w'.cell? ⟨xb, 3, none⟩ = some (.int .i64 (r : Int)) ∧ w'.cell? ⟨xb, 4, none⟩ = some (.int .i64 (n : Int)) ∧ w'.cell? ⟨W.heap.size, 0, none⟩ = some (.slice (some ⟨rb, ro, none⟩) c.recs.length rp) ∧ w'.cell? ⟨rb, ro + r, none⟩ = some (.slice (some ⟨fb, fo, none⟩) q.flds.length fp) ∧ w'.cell? ⟨fb, fo + n * 3, none⟩ = some (.int .i64 l.kind) ∧ w'.cell? ⟨fb, fo + n * 3 + 1, none⟩ = some (.int .i64 l.rc) ∧ w'.cell? ⟨fb, fo + n * 3 + 2, none⟩ = some (.bool l.once)) (by kernel_rfl) (⟨PW.out.bx.cell 3 hx3, PW.out.bx.cell 4 hx4, (PW.out.b0.cell 0 rfl).trans (congrArg some RE.out), (PW.out.bel.cell (p := ⟨rb, ro + r, none⟩) rlt.out).trans cr.out, (PW.out.bel.cell (p := ⟨fb, fo + n * 3, none⟩) flt.out).trans c0.out, (PW.out.bel.cell (p := ⟨fb, fo + n * 3 + 1, none⟩) flt.out).trans c1.out, (PW.out.bel.cell (p := ⟨fb, fo + n * 3 + 2, none⟩) flt.out).trans c2.out⟩) (fun hHeld => ?_)
                  refine wpAnyH_take (i := 0) (oi := { dst := some 43, op := Go.Op.fieldAddr 28 (Go.Operand.tmp 1) 0, type := 0, pos := "law.go:80", after := #[], guard := none }) (v := ?_) rfl (by kernel_rfl) (by kernel_rfl) (by kernel_rfl) (fun _ _ _ h => h) (Or.inl ⟨by rfl, ?_⟩) hHeld ?_
                  rotate_left
                  · intro w0 hSw; (try dsimp only at hSw); go_simp; (try with_reducible rfl)
                  try simp only [Act.put, List.setIfInBounds_toArray, List.set_cons_zero, List.set_cons_succ]
                  refine wpAnyH_take (i := 1) (oi := { dst := some 44, op := Go.Op.load 22 (Go.Operand.tmp 43), type := 22, pos := "law.go:80", after := #[{ on := 0, ground := Go.Ground.data }], guard := none }) (v := ?_) rfl (by kernel_rfl) (by kernel_rfl) (by kernel_rfl) (fun _ _ _ h => h) (Or.inl ⟨by rfl, ?_⟩) hHeld ?_
                  rotate_left
                  · intro w0 hSw; (try dsimp only at hSw); go_simp; (try with_reducible rfl)
                  try simp only [Act.put, List.setIfInBounds_toArray, List.set_cons_zero, List.set_cons_succ]
                  refine wpAnyH_take (i := 2) (oi := { dst := some 45, op := Go.Op.fieldAddr 50 (Go.Operand.tmp 6) 3, type := 0, pos := "law.go:80", after := #[], guard := none }) (v := ?_) rfl (by kernel_rfl) (by kernel_rfl) (by kernel_rfl) (fun _ _ _ h => h) (Or.inl ⟨by rfl, ?_⟩) hHeld ?_
                  rotate_left
                  · intro w0 hSw; (try dsimp only at hSw); go_simp; (try with_reducible rfl)
                  try simp only [Act.put, List.setIfInBounds_toArray, List.set_cons_zero, List.set_cons_succ]
                  refine wpAnyH_take (i := 3) (oi := { dst := some 46, op := Go.Op.load 3 (Go.Operand.tmp 45), type := 3, pos := "law.go:80", after := #[{ on := 2, ground := Go.Ground.data }], guard := none }) (v := ?_) rfl (by kernel_rfl) (by kernel_rfl) (by kernel_rfl) (fun _ _ _ h => h) (Or.inl ⟨by rfl, ?_⟩) hHeld ?_
                  rotate_left
                  · intro w0 hSw; (try dsimp only at hSw); go_simp; (try with_reducible rfl)
                  try simp only [Act.put, List.setIfInBounds_toArray, List.set_cons_zero, List.set_cons_succ]
                  refine wpAnyH_take (i := 4) (oi := { dst := some 47, op := Go.Op.indexAddr 22 (Go.Operand.tmp 44) (Go.Operand.tmp 46), type := 0, pos := "law.go:80", after := #[{ on := 1, ground := Go.Ground.data }, { on := 3, ground := Go.Ground.data }], guard := none }) (v := ?_) rfl (by kernel_rfl) (by kernel_rfl) (by kernel_rfl) (fun _ _ _ h => h) (Or.inl ⟨by rfl, ?_⟩) hHeld ?_
                  rotate_left
                  · intro w0 hSw; (try dsimp only at hSw); go_simp; (try with_reducible rfl)
                  try simp only [Act.put, List.setIfInBounds_toArray, List.set_cons_zero, List.set_cons_succ]
                  refine wpAnyH_take (i := 5) (oi := { dst := some 48, op := Go.Op.load 23 (Go.Operand.tmp 47), type := 23, pos := "law.go:80", after := #[{ on := 4, ground := Go.Ground.data }], guard := none }) (v := ?_) rfl (by kernel_rfl) (by kernel_rfl) (by kernel_rfl) (fun _ _ _ h => h) (Or.inl ⟨by rfl, ?_⟩) hHeld ?_
                  rotate_left
                  · intro w0 hSw; (try dsimp only at hSw); go_simp; (try with_reducible rfl)
                  try simp only [Act.put, List.setIfInBounds_toArray, List.set_cons_zero, List.set_cons_succ]
                  refine wpAnyH_take (i := 6) (oi := { dst := some 49, op := Go.Op.fieldAddr 50 (Go.Operand.tmp 6) 4, type := 0, pos := "law.go:80", after := #[], guard := none }) (v := ?_) rfl (by kernel_rfl) (by kernel_rfl) (by kernel_rfl) (fun _ _ _ h => h) (Or.inl ⟨by rfl, ?_⟩) hHeld ?_
                  rotate_left
                  · intro w0 hSw; (try dsimp only at hSw); go_simp; (try with_reducible rfl)
                  try simp only [Act.put, List.setIfInBounds_toArray, List.set_cons_zero, List.set_cons_succ]
                  refine wpAnyH_take (i := 7) (oi := { dst := some 50, op := Go.Op.load 3 (Go.Operand.tmp 49), type := 3, pos := "law.go:80", after := #[{ on := 6, ground := Go.Ground.data }], guard := none }) (v := ?_) rfl (by kernel_rfl) (by kernel_rfl) (by kernel_rfl) (fun _ _ _ h => h) (Or.inl ⟨by rfl, ?_⟩) hHeld ?_
                  rotate_left
                  · intro w0 hSw; (try dsimp only at hSw); go_simp; (try with_reducible rfl)
                  try simp only [Act.put, List.setIfInBounds_toArray, List.set_cons_zero, List.set_cons_succ]
                  refine wpAnyH_take (i := 8) (oi := { dst := some 51, op := Go.Op.indexAddr 23 (Go.Operand.tmp 48) (Go.Operand.tmp 50), type := 0, pos := "law.go:80", after := #[{ on := 5, ground := Go.Ground.data }, { on := 7, ground := Go.Ground.data }], guard := none }) (v := ?_) rfl (by kernel_rfl) (by kernel_rfl) (by kernel_rfl) (fun _ _ _ h => h) (Or.inl ⟨by rfl, ?_⟩) hHeld ?_
                  rotate_left
                  · intro w0 hSw; (try dsimp only at hSw); go_simp; (try with_reducible rfl)
                  try simp only [Act.put, List.setIfInBounds_toArray, List.set_cons_zero, List.set_cons_succ]
                  refine wpAnyH_take (i := 9) (oi := { dst := some 52, op := Go.Op.load 56 (Go.Operand.tmp 51), type := 56, pos := "law.go:80", after := #[{ on := 8, ground := Go.Ground.data }], guard := none }) (v := ?_) rfl (by kernel_rfl) (by kernel_rfl) (by kernel_rfl) (fun _ _ _ h => h) (Or.inl ⟨by rfl, ?_⟩) hHeld ?_
                  rotate_left
                  · intro w0 hSw; (try dsimp only at hSw); go_simp; (try with_reducible rfl)
                  try simp only [Act.put, List.setIfInBounds_toArray, List.set_cons_zero, List.set_cons_succ]
                  refine wpAnyH_ready (rs := [10]) (by kernel_rfl) (by simp) ?_
                  refine AllReadyH.cons (o := { dst := none, op := Go.Op.store 56 (Go.Operand.tmp 7) (Go.Operand.tmp 52), type := 0, pos := "law.go:80", after := #[{ on := 9, ground := Go.Ground.data }, { on := 0, ground := Go.Ground.phase }, { on := 1, ground := Go.Ground.phase }, { on := 2, ground := Go.Ground.phase }, { on := 3, ground := Go.Ground.phase }, { on := 4, ground := Go.Ground.phase }, { on := 5, ground := Go.Ground.phase }, { on := 6, ground := Go.Ground.phase }, { on := 7, ground := Go.Ground.phase }, { on := 8, ground := Go.Ground.phase }, { on := 9, ground := Go.Ground.phase }], guard := none }) rfl (fun K' hK' => ?_) AllReadyH.nil
                  refine step_store 56 _ _ (by rfl) (by rfl) (xb + 1) (by rfl) [.int .i64 l.kind, .int .i64 l.rc, .bool l.once] (by rfl) size56 (loc_ones l) [.int .i64 0, .int .i64 0, .bool false] 56 PW.out.bo rfl rfl ?_
                  intro X1 hv ht
                  have PZ := hid (PW.out.stored hv ht)
                  have hz := hid (show X1.cell? ⟨xb, 3, none⟩ = some (.int .i64 (r : Int)) ∧ X1.cell? ⟨xb, 4, none⟩ = some (.int .i64 (n : Int)) ∧ X1.cell? ⟨W.heap.size, 0, none⟩ = some (.slice (some ⟨rb, ro, none⟩) c.recs.length rp) ∧ X1.cell? ⟨rb, ro + r, none⟩ = some (.slice (some ⟨fb, fo, none⟩) q.flds.length fp) ∧ X1.cell? ⟨fb, fo + n * 3, none⟩ = some (.int .i64 l.kind) ∧ X1.cell? ⟨fb, fo + n * 3 + 1, none⟩ = some (.int .i64 l.rc) ∧ X1.cell? ⟨fb, fo + n * 3 + 2, none⟩ = some (.bool l.once) from ⟨PZ.out.bx.cell 3 hx3, PZ.out.bx.cell 4 hx4, (PZ.out.b0.cell 0 rfl).trans (congrArg some RE.out), (PZ.out.bel.cell (p := ⟨rb, ro + r, none⟩) rlt.out).trans cr.out, (PZ.out.bel.cell (p := ⟨fb, fo + n * 3, none⟩) flt.out).trans c0.out, (PZ.out.bel.cell (p := ⟨fb, fo + n * 3 + 1, none⟩) flt.out).trans c1.out, (PZ.out.bel.cell (p := ⟨fb, fo + n * 3 + 2, none⟩) flt.out).trans c2.out⟩)
                  clear hv ht
                  refine hK'.out _ _ hz.out (fun hHeld => ?_)
                  clear hK' K'
                  try simp only [Act.put, List.setIfInBounds_toArray, List.set_cons_zero, List.set_cons_succ]
                  refine wpAnyH_done (by kernel_rfl) ?_ _
                  clear hHeld
                  go_wp2_with fail
                  go_meet
                  case rel => exact ⟨l, hto, PZ⟩
                · have h6b : (x.op == 6) = false := by simpa using h6
                  have hto : Loc.z = toOf c b x := by unfold toOf; rw [if_neg h1, if_neg h5, if_neg h6]
                  clear h1 h5 h6
                  replace hto := hid hto
                  go_wp2_with fail
                  go_meet
                  case rel => exact ⟨_, hto.out, PW⟩
          case rest =>
            clear PW
            obtain ⟨l, hl, PW⟩ := hcut
            have l0 := PW.out.bo.cell 0 rfl
            have l1 := PW.out.bo.cell 1 rfl
            have l2 := PW.out.bo.cell 2 rfl
            have CM := hid (fun Y => means_any l Y)
            simp only [Loc.cells] at CM
            replace hl := hid hl
            cases hm : meansL l
            · rw [hm] at CM
              have PI : Hid (PlainI c b x) := hid (fun h => by rw [← hl.out, hm] at h; cases h)
              go_wp2_with (go_at_call 30; refine Calls.mono (CM.out _) ?_; rintro _ w1 ⟨rfl, hk⟩; replace PW := hid (PW.out.kept hk); clear hk CM l0 l1 l2)
              go_roundw
              case rel => exact ⟨j + 1, by go_num, by omega, hid PW.out.b0, hid (by rw [← EC.out]; exact PW.out.bt), hid PW.out.bel, hid (PU.out.step HB.out HX.out PI.out)⟩
              case measure => simp [intOf]; omega
            · rw [hm] at CM
              obtain ⟨ia, ip2, ie, hir⟩ := RowOf.at OKX.out.2.1
              have EI2 := hid ie
              by_cases hn1 : x.items.length = 1
              rotate_left
              · have hnb : ¬ (x.items.length : Int) = 1 := by omega
                clear hir ie
                go_wp2_with (go_at_call 30; refine Calls.mono (CM.out _) ?_; rintro _ w1 ⟨rfl, hk⟩; replace PW := hid (PW.out.kept hk); clear hk CM l0 l1 l2; have z0 := PW.out.bx.cell 6 rfl; rw [EI2.out] at z0)
                go_ret
                exact ⟨false, rfl, (fun h => by cases h), PW.out.bel⟩
              obtain ⟨y, ib, io, hy, rfl, ilt0, ira, iok⟩ := hir 0 (by omega)
              have hys : x.items = [y] := by
                match hq : x.items, hn1, hy with
                | [z], _, hz => simpa using hz
              have i0 : W.cell? ⟨ib, io, none⟩ = some (.int .i64 y.op) := by have := ira 0 _ rfl; simpa using this
              have i2 : W.cell? ⟨ib, io + 2, none⟩ = some (.int .u64 y.n) := by have := ira 2 _ rfl; simpa using this
              have ilt := hid ilt0
              rw [hn1] at EI2
              have PJ := fun (h : y.op = 2 → (b.slots.getD y.n.toNat Loc.z).kind = (toOf c b x).kind ∧ (b.slots.getD y.n.toNat Loc.z).rc = (toOf c b x).rc) => (fun _ => ⟨y, hys, h⟩ : PlainI c b x)
              have IY := IS.out y (by rw [hys]; simp)
              clear hir ie ira iok ilt0 hy
              replace PJ := hid PJ
              replace IY := hid IY
              replace hys := hid hys
              cases h3 : (y.op == 3)
              rotate_left
              · have e3 : y.op = 3 := by simpa using h3
                rw [e3] at i0
                clear h3 e3
                go_wp2_with (go_at_call 30; refine Calls.mono (CM.out _) ?_; rintro _ w1 ⟨rfl, hk⟩; replace PW := hid (PW.out.kept hk); clear hk CM l0 l1 l2; have z0 := PW.out.bx.cell 6 rfl; rw [EI2.out] at z0; rw [← PW.out.bel.cell ilt.out] at i0 i2)
                go_ret
                exact ⟨false, rfl, (fun h => by cases h), PW.out.bel⟩
              cases h1 : (y.op == 1)
              rotate_left
              · have e1 : y.op = 1 := by simpa using h1
                have PI := hid (PJ.out (fun h => by rw [e1] at h; cases h))
                rw [e1] at i0
                cases hz : (y.n == 0)
                · clear h3 h1 e1
                  go_wp2_with (go_at_call 30; refine Calls.mono (CM.out _) ?_; rintro _ w1 ⟨rfl, hk⟩; replace PW := hid (PW.out.kept hk); clear hk CM l0 l1 l2; have z0 := PW.out.bx.cell 6 rfl; rw [EI2.out] at z0; rw [← PW.out.bel.cell ilt.out] at i0 i2)
                  go_ret
                  exact ⟨false, rfl, (fun h => by cases h), PW.out.bel⟩
                · have ez : y.n = 0 := by simpa using hz
                  rw [ez] at i2
                  clear h3 h1 e1 hz ez
                  go_wp2_with (go_at_call 30; refine Calls.mono (CM.out _) ?_; rintro _ w1 ⟨rfl, hk⟩; replace PW := hid (PW.out.kept hk); clear hk CM l0 l1 l2; have z0 := PW.out.bx.cell 6 rfl; rw [EI2.out] at z0; rw [← PW.out.bel.cell ilt.out] at i0 i2)
                  go_roundw
                  case rel => exact ⟨j + 1, by go_num, by omega, hid PW.out.b0, hid (by rw [← EC.out]; exact PW.out.bt), hid PW.out.bel, hid (PU.out.step HB.out HX.out PI.out)⟩
                  case measure => simp [intOf]; omega
              cases h2 : (y.op == 2)
              · have PI := hid (PJ.out (fun h => by rw [h] at h2; cases h2))
                go_wp2_with (go_at_call 30; refine Calls.mono (CM.out _) ?_; rintro _ w1 ⟨rfl, hk⟩; replace PW := hid (PW.out.kept hk); clear hk CM l0 l1 l2; have z0 := PW.out.bx.cell 6 rfl; rw [EI2.out] at z0; rw [← PW.out.bel.cell ilt.out] at i0 i2)
                go_roundw
                case rel => exact ⟨j + 1, by go_num, by omega, hid PW.out.b0, hid (by rw [← EC.out]; exact PW.out.bt), hid PW.out.bel, hid (PU.out.step HB.out HX.out PI.out)⟩
                case measure => simp [intOf]; omega
              · have e2 : y.op = 2 := by simpa using h2
                obtain ⟨hy0, hyl⟩ := IY.out h2
                obtain ⟨m, hm2⟩ : ∃ m : Nat, y.n = m := ⟨y.n.toNat, by omega⟩
                rw [hm2, Int.toNat_natCast] at hyl
                obtain ⟨s, hs⟩ : ∃ s, b.slots[m]? = some s := ⟨b.slots[m], by simp [hyl]⟩
                obtain ⟨sb, so, rfl, slt0, -, s00, s10, s20⟩ := HSR.out m s hs
                have s0 := hid s00
                have s1 := hid s10
                have s2 := hid s20
                have slt := hid slt0
                have hmI : (m : Int) < (b.slots.length : Int) := by omega
                have QJ := hid (fun (h : s.kind = l.kind ∧ s.rc = l.rc) => PJ.out (fun _ => by
                  rw [hm2, Int.toNat_natCast, ← hl.out]
                  simp only [List.getD, hs, Option.getD_some]
                  exact h))
                rw [hm2] at i2
                rw [e2] at i0
                have I2 := hid i2
                clear h3 h1 h2 e2 hs hm2 s00 s10 s20 slt0 hy0 IY PJ
                go_wp2_with (go_at_call 30; refine Calls.mono (CM.out _) ?_; rintro _ w1 ⟨rfl, hk⟩; replace PW := hid (PW.out.kept hk); clear hk CM l0 l1 l2; have z0 := PW.out.bx.cell 6 rfl; rw [EI2.out] at z0; rw [← PW.out.bel.cell ilt.out] at i0 i2)
                replace i2 := I2
                replace PW := hid (PW.out.kept (Below.refl _ _).drew)
                clear i0 z0
                refine wp_region_held_drew (S := fun (w' : World) => w'.cell? ⟨bb, 0, none⟩ = some (.slice (some ⟨sb, so, none⟩) b.slots.length sp) ∧ w'.cell? ⟨xb, 6, none⟩ = some (.slice (some ⟨ib, io, none⟩) 1 ip2) ∧ w'.cell? ⟨ib, io + 2, none⟩ = some (.int .u64 (m : Int)) ∧ w'.cell? ⟨sb, so + m * 3, none⟩ = some (.int .i64 s.kind) ∧ w'.cell? ⟨sb, so + m * 3 + 1, none⟩ = some (.int .i64 s.rc) ∧ w'.cell? ⟨sb, so + m * 3 + 2, none⟩ = some (.bool s.once)) (by kernel_rfl) (⟨(PW.out.bt.cell 0 rfl), (PW.out.bx.cell 6 rfl).trans (congrArg some EI2.out), (PW.out.bel.cell (p := ⟨ib, io + 2, none⟩) ilt.out).trans i2.out, (PW.out.bel.cell (p := ⟨sb, so + m * 3, none⟩) slt.out).trans s0.out, (PW.out.bel.cell (p := ⟨sb, so + m * 3 + 1, none⟩) slt.out).trans s1.out, (PW.out.bel.cell (p := ⟨sb, so + m * 3 + 2, none⟩) slt.out).trans s2.out⟩) (fun hHeld => ?_)
                refine wpAnyH_take (i := 0) (oi := { dst := some 90, op := Go.Op.fieldAddr 40 (Go.Operand.tmp 4) 0, type := 0, pos := "law.go:89", after := #[], guard := none }) (v := ?_) rfl (by kernel_rfl) (by kernel_rfl) (by kernel_rfl) (fun _ _ _ h => h) (Or.inl ⟨by rfl, ?_⟩) hHeld ?_
                rotate_left
                · intro w0 hSw; (try dsimp only at hSw); go_simp; (try with_reducible rfl)
                try simp only [Act.put, List.setIfInBounds_toArray, List.set_cons_zero, List.set_cons_succ]
                refine wpAnyH_take (i := 1) (oi := { dst := some 91, op := Go.Op.load 23 (Go.Operand.tmp 90), type := 23, pos := "law.go:89", after := #[{ on := 0, ground := Go.Ground.data }], guard := none }) (v := ?_) rfl (by kernel_rfl) (by kernel_rfl) (by kernel_rfl) (fun _ _ _ h => h) (Or.inl ⟨by rfl, ?_⟩) hHeld ?_
                rotate_left
                · intro w0 hSw; (try dsimp only at hSw); go_simp; (try with_reducible rfl)
                try simp only [Act.put, List.setIfInBounds_toArray, List.set_cons_zero, List.set_cons_succ]
                refine wpAnyH_take (i := 2) (oi := { dst := some 92, op := Go.Op.fieldAddr 50 (Go.Operand.tmp 6) 6, type := 0, pos := "law.go:89", after := #[], guard := none }) (v := ?_) rfl (by kernel_rfl) (by kernel_rfl) (by kernel_rfl) (fun _ _ _ h => h) (Or.inl ⟨by rfl, ?_⟩) hHeld ?_
                rotate_left
                · intro w0 hSw; (try dsimp only at hSw); go_simp; (try with_reducible rfl)
                try simp only [Act.put, List.setIfInBounds_toArray, List.set_cons_zero, List.set_cons_succ]
                refine wpAnyH_take (i := 3) (oi := { dst := some 93, op := Go.Op.load 48 (Go.Operand.tmp 92), type := 48, pos := "law.go:89", after := #[{ on := 2, ground := Go.Ground.data }], guard := none }) (v := ?_) rfl (by kernel_rfl) (by kernel_rfl) (by kernel_rfl) (fun _ _ _ h => h) (Or.inl ⟨by rfl, ?_⟩) hHeld ?_
                rotate_left
                · intro w0 hSw; (try dsimp only at hSw); go_simp; (try with_reducible rfl)
                try simp only [Act.put, List.setIfInBounds_toArray, List.set_cons_zero, List.set_cons_succ]
                refine wpAnyH_take (i := 4) (oi := { dst := some 94, op := Go.Op.indexAddr 48 (Go.Operand.tmp 93) (Go.Operand.const (Go.Value.int Go.IntKind.i64 0)), type := 0, pos := "law.go:89", after := #[{ on := 3, ground := Go.Ground.data }], guard := none }) (v := ?_) rfl (by kernel_rfl) (by kernel_rfl) (by kernel_rfl) (fun _ _ _ h => h) (Or.inl ⟨by rfl, ?_⟩) hHeld ?_
                rotate_left
                · intro w0 hSw; (try dsimp only at hSw); go_simp; (try with_reducible rfl)
                try simp only [Act.put, List.setIfInBounds_toArray, List.set_cons_zero, List.set_cons_succ]
                refine wpAnyH_take (i := 5) (oi := { dst := some 95, op := Go.Op.fieldAddr 52 (Go.Operand.tmp 94) 2, type := 0, pos := "law.go:89", after := #[{ on := 4, ground := Go.Ground.data }], guard := none }) (v := ?_) rfl (by kernel_rfl) (by kernel_rfl) (by kernel_rfl) (fun _ _ _ h => h) (Or.inl ⟨by rfl, ?_⟩) hHeld ?_
                rotate_left
                · intro w0 hSw; (try dsimp only at hSw); go_simp; (try with_reducible rfl)
                try simp only [Act.put, List.setIfInBounds_toArray, List.set_cons_zero, List.set_cons_succ]
                refine wpAnyH_take (i := 6) (oi := { dst := some 96, op := Go.Op.load 44 (Go.Operand.tmp 95), type := 44, pos := "law.go:89", after := #[{ on := 5, ground := Go.Ground.data }], guard := none }) (v := ?_) rfl (by kernel_rfl) (by kernel_rfl) (by kernel_rfl) (fun _ _ _ h => h) (Or.inl ⟨by rfl, ?_⟩) hHeld ?_
                rotate_left
                · intro w0 hSw; (try dsimp only at hSw); go_simp; (try with_reducible rfl)
                try simp only [Act.put, List.setIfInBounds_toArray, List.set_cons_zero, List.set_cons_succ]
                refine wpAnyH_take (i := 7) (oi := { dst := some 97, op := Go.Op.indexAddr 23 (Go.Operand.tmp 91) (Go.Operand.tmp 96), type := 0, pos := "law.go:89", after := #[{ on := 1, ground := Go.Ground.data }, { on := 6, ground := Go.Ground.data }], guard := none }) (v := ?_) rfl (by kernel_rfl) (by kernel_rfl) (by kernel_rfl) (fun _ _ _ h => h) (Or.inl ⟨by rfl, ?_⟩) hHeld ?_
                rotate_left
                · intro w0 hSw; (try dsimp only at hSw); go_simp; (try with_reducible rfl)
                try simp only [Act.put, List.setIfInBounds_toArray, List.set_cons_zero, List.set_cons_succ]
                refine wpAnyH_take (i := 8) (oi := { dst := some 98, op := Go.Op.load 56 (Go.Operand.tmp 97), type := 56, pos := "law.go:89", after := #[{ on := 7, ground := Go.Ground.data }], guard := none }) (v := ?_) rfl (by kernel_rfl) (by kernel_rfl) (by kernel_rfl) (fun _ _ _ h => h) (Or.inl ⟨by rfl, ?_⟩) hHeld ?_
                rotate_left
                · intro w0 hSw; (try dsimp only at hSw); go_simp; (try with_reducible rfl)
                try simp only [Act.put, List.setIfInBounds_toArray, List.set_cons_zero, List.set_cons_succ]
                refine wpAnyH_ready (rs := [9]) (by kernel_rfl) (by simp) ?_
                refine AllReadyH.cons (o := { dst := some 8, op := Go.Op.alloc 56, type := 0, pos := "law.go:89", after := #[], guard := none }) rfl (fun K' hK' => ?_) AllReadyH.nil
                go_simp
                have VS := hid (VarAt.new w1.drew [.int .i64 0, .int .i64 0, .bool false] 56)
                have hp := PW.out.bo.lt
                replace PW := hid (PW.out.kept ((Below.refl w1.drew.heap.size w1.drew).alloc (Nat.le_refl _) (.cells #[.int .i64 0, .int .i64 0, .bool false] 56)))
                have hz := hid (show (w1.drew.alloc (.cells #[.int .i64 0, .int .i64 0, .bool false] 56)).cell? ⟨bb, 0, none⟩ = some (.slice (some ⟨sb, so, none⟩) b.slots.length sp) ∧ (w1.drew.alloc (.cells #[.int .i64 0, .int .i64 0, .bool false] 56)).cell? ⟨xb, 6, none⟩ = some (.slice (some ⟨ib, io, none⟩) 1 ip2) ∧ (w1.drew.alloc (.cells #[.int .i64 0, .int .i64 0, .bool false] 56)).cell? ⟨ib, io + 2, none⟩ = some (.int .u64 (m : Int)) ∧ (w1.drew.alloc (.cells #[.int .i64 0, .int .i64 0, .bool false] 56)).cell? ⟨sb, so + m * 3, none⟩ = some (.int .i64 s.kind) ∧ (w1.drew.alloc (.cells #[.int .i64 0, .int .i64 0, .bool false] 56)).cell? ⟨sb, so + m * 3 + 1, none⟩ = some (.int .i64 s.rc) ∧ (w1.drew.alloc (.cells #[.int .i64 0, .int .i64 0, .bool false] 56)).cell? ⟨sb, so + m * 3 + 2, none⟩ = some (.bool s.once) from ⟨(PW.out.bt.cell 0 rfl), (PW.out.bx.cell 6 rfl).trans (congrArg some EI2.out), (PW.out.bel.cell (p := ⟨ib, io + 2, none⟩) ilt.out).trans i2.out, (PW.out.bel.cell (p := ⟨sb, so + m * 3, none⟩) slt.out).trans s0.out, (PW.out.bel.cell (p := ⟨sb, so + m * 3 + 1, none⟩) slt.out).trans s1.out, (PW.out.bel.cell (p := ⟨sb, so + m * 3 + 2, none⟩) slt.out).trans s2.out⟩)
                refine hK'.out _ _ hz.out (fun hHeld => ?_)
                clear hK' K'
                try simp only [Act.put, List.setIfInBounds_toArray, List.set_cons_zero, List.set_cons_succ]
                refine wpAnyH_ready (rs := [10]) (by kernel_rfl) (by simp) ?_
                refine AllReadyH.cons (o := { dst := none, op := Go.Op.store 56 (Go.Operand.tmp 8) (Go.Operand.tmp 98), type := 0, pos := "law.go:89", after := #[{ on := 9, ground := Go.Ground.data }, { on := 8, ground := Go.Ground.data }, { on := 0, ground := Go.Ground.phase }, { on := 1, ground := Go.Ground.phase }, { on := 2, ground := Go.Ground.phase }, { on := 3, ground := Go.Ground.phase }, { on := 4, ground := Go.Ground.phase }, { on := 5, ground := Go.Ground.phase }, { on := 6, ground := Go.Ground.phase }, { on := 7, ground := Go.Ground.phase }, { on := 8, ground := Go.Ground.phase }, { on := 9, ground := Go.Ground.phase }], guard := none }) rfl (fun K' hK' => ?_) AllReadyH.nil
                refine step_store 56 _ _ (by rfl) (by rfl) _ (by rfl) [.int .i64 s.kind, .int .i64 s.rc, .bool s.once] (by rfl) size56 (loc_ones s) _ 56 VS.out rfl rfl ?_
                intro z hv ht
                replace PW := hid (PW.out.side ht hp)
                have VZ := hid hv
                have hz := hid (show z.cell? ⟨bb, 0, none⟩ = some (.slice (some ⟨sb, so, none⟩) b.slots.length sp) ∧ z.cell? ⟨xb, 6, none⟩ = some (.slice (some ⟨ib, io, none⟩) 1 ip2) ∧ z.cell? ⟨ib, io + 2, none⟩ = some (.int .u64 (m : Int)) ∧ z.cell? ⟨sb, so + m * 3, none⟩ = some (.int .i64 s.kind) ∧ z.cell? ⟨sb, so + m * 3 + 1, none⟩ = some (.int .i64 s.rc) ∧ z.cell? ⟨sb, so + m * 3 + 2, none⟩ = some (.bool s.once) from ⟨(PW.out.bt.cell 0 rfl), (PW.out.bx.cell 6 rfl).trans (congrArg some EI2.out), (PW.out.bel.cell (p := ⟨ib, io + 2, none⟩) ilt.out).trans i2.out, (PW.out.bel.cell (p := ⟨sb, so + m * 3, none⟩) slt.out).trans s0.out, (PW.out.bel.cell (p := ⟨sb, so + m * 3 + 1, none⟩) slt.out).trans s1.out, (PW.out.bel.cell (p := ⟨sb, so + m * 3 + 2, none⟩) slt.out).trans s2.out⟩)
                clear hv ht VS hp
                refine hK'.out _ _ hz.out (fun hHeld => ?_)
                clear hK' K'
                try simp only [Act.put, List.setIfInBounds_toArray, List.set_cons_zero, List.set_cons_succ]
                refine wpAnyH_done (by kernel_rfl) ?_ _
                clear hHeld
                rw [show w1.drew.heap.size = w1.heap.size from rfl] at VZ
                have m0 := VZ.out.cell 0 rfl
                have m1 := VZ.out.cell 1 rfl
                have l0 := PW.out.bo.cell 0 rfl
                have l1 := PW.out.bo.cell 1 rfl
                cases k1 : (s.kind == l.kind)
                · go_wp2_with fail
                  all_goals
                    go_ret
                    exact ⟨false, rfl, (fun h => by cases h), PW.out.bel⟩
                · cases k2 : (s.rc == l.rc)
                  · go_wp2_with fail
                    all_goals
                      go_ret
                      exact ⟨false, rfl, (fun h => by cases h), PW.out.bel⟩
                  · have ek : s.kind = l.kind := by simpa using k1
                    have er : s.rc = l.rc := by simpa using k2
                    have PI := hid (QJ.out ⟨ek, er⟩)
                    rw [ek] at m0
                    rw [er] at m1
                    clear k1 k2 ek er
                    go_wp2_with fail
                    go_roundw
                    case rel => exact ⟨j + 1, by go_num, by omega, hid PW.out.b0, hid (by rw [← EC.out]; exact PW.out.bt), hid PW.out.bel, hid (PU.out.step HB.out HX.out PI.out)⟩
                    case measure => simp [intOf]; omega
        · have e : j = nK := by omega
          subst e
          have PN := hid (PlU.turn (b := b) (by rw [hK'.out]; exact PU.out) HB.out)
          clear PU
          go_wp2_with fail
          go_roundw
          case rel => exact ⟨i + 1, by go_num, by omega, V0, BX, PN⟩
          case measure => simp [intOf]; omega
    · have e : i = c.threads.length := by omega
      subst e
      have PE := hid PU.out.ends
      go_wp2_with fail
      go_ret
      exact ⟨true, rfl, fun _ => PE.out, BX.out⟩
end Go.Proofs.YtkdpcaoocmbbhaaDoor
