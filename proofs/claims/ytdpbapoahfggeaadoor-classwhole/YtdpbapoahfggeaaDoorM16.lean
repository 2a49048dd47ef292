/- Us, Tg -/
import Derived.Test.YtdpbapoahfggeaaDoorEmc
import Derived.Test.YtdpbapoahfggeaaDoorDs
import Derived.Test.YtdpbapoahfggeaaDoorM13
/- The contract of calc's Uses: a row of slots' numbers. -/
namespace Go.Proofs.YtdpbapoahfggeaaDoor
open Go.ChangeShapes Go.WideShapes Go.ChangeAt Go.RowKit Go.Deep
set_option linter.unusedVariables false
set_option linter.unusedSimpArgs false

def cellI (s : Nat) : List Value := [.int .i64 (s : Int)]
theorem flat_cellI (l : List Nat) (q : Nat) (h : q < l.length) : (l.flatMap cellI)[q]? = some (.int .i64 ((l.getD q 0 : Nat) : Int)) := by
  have := flat_get cellI 1 (fun _ => rfl) l q (l.getD q 0) (by simp [List.getD, h]) 0 (.int .i64 ((l.getD q 0 : Nat) : Int)) rfl
  simpa using this

/-- A row of numbers that this call owns, as others read it. -/
theorem nums_own {w : World} {base : Nat} {v : Value} {l : List Nat} (h : w.ownsRow base 3 1 v l.length (l.flatMap cellI)) : NumsM w base w.heap.size v l := by
  rcases h.2 with ⟨rfl, h0⟩ | ⟨g, cap, cur, rfl, hb, hg, hle, hcm, hcs, ht⟩
  · have hl : l = [] := by cases l with
      | nil => rfl
      | cons x l => simp at h0
    subst hl
    exact ⟨none, 0, rfl, fun q hq => by simp at hq⟩
  · have hlt : g < w.heap.size := (Array.getElem?_eq_some_iff.1 hg).1
    refine ⟨some ⟨g, 0, none⟩, cap, rfl, fun q hq => ⟨g, rfl, hb, hlt, hlt, ?_⟩⟩
    have := h.cells (g := g) rfl q _ (flat_cellI l q hq)
    rwa [add_plain, Nat.zero_add] at this

theorem info3 : (Tryd.prog.info? 3).map (fun i => (i.zero, i.size, i.bytes)) = some (some (.int .i64 0), 1, 8) := by kernel_rfl
theorem uses_take (xs : List Itm) (j : Nat) (x : Itm) (h : xs[j]? = some x) : usesN (xs.take (j + 1)) = usesN (xs.take j) ++ (if x.op == 2 then [x.n.toNat] else []) := by
  rw [take_snoc' h]
  unfold usesN
  rw [List.filterMap_append]
  congr 1
  rw [List.filterMap_cons]
  cases x.op == 2 <;> rfl
theorem uses_le (xs : List Itm) (j : Nat) : (usesN (xs.take j)).length ≤ j := by
  have h1 : (usesN (xs.take j)).length ≤ (xs.take j).length := by unfold usesN; exact List.length_filterMap_le _ _
  have h2 := List.length_take_le j xs
  omega

set_option maxRecDepth 100000 in
set_option maxHeartbeats 1000000 in
theorem uses_any (v : Value) (xs : List Itm) (w : World) (hx : Items w v xs) (hl : xs.length ≤ 1000) (hn : ∀ x ∈ xs, (x.op == 2) = true → 0 ≤ x.n ∧ x.n < 1000) :
    Calls Tryd.prog 39 #[v] w fun e w' => ∃ u, e = .returned u ∧ w'.ownsRow w.heap.size 3 1 u (usesN xs).length ((usesN xs).flatMap cellI) ∧ Below w.heap.size w w' := by
  obtain ⟨a, cap, rfl, hr⟩ := RowOf.at hx
  have HX := hid hr
  have HT := hid (fun j (x : Itm) h => uses_take xs j x h)
  have HL := hid (fun j => uses_le xs j)
  have HN := hid hn
  have HA := hid (List.take_length (l := xs))
  clear hr hn hx
  generalize hln : xs.length = n at *
  replace hln := hid hln
  go_enter Tryd.func39, Tryd.ntmps39
  go_wp2_with fail
  go_loopw [3, 8] (fun t3 t wr => ∃ (j m c : Nat) (p : Option Addr) (l : List Nat), t = .int .i64 j ∧ j ≤ n ∧ t3 = .slice p m c ∧ m ≤ j ∧ Hid (l = usesN (xs.take j) ∧ m = l.length) ∧ Hid (wr.ownsRow w.heap.size 3 1 (.slice p m c) m (l.flatMap cellI)) ∧ Hid (Below w.heap.size w wr)) (fun _ t _ => n - (intOf t).toNat)
  case atStart => exact ⟨0, 0, 0, none, [], rfl, by omega, rfl, by omega, hid ⟨rfl, rfl⟩, hid ⟨rfl, .inl ⟨rfl, rfl⟩⟩, hid (Below.refl _ _)⟩
  case round =>
    obtain ⟨j, m, c, p, l, rfl, hj, rfl, hm, E, O, B⟩ := hrel
    by_cases hjn : j < n
    · obtain ⟨x, b, off, hx, rfl, hb, hra, ok⟩ := HX.out j hjn
      have c0 : w.cell? ⟨b, off + j * 3, none⟩ = some (.int .i64 x.op) := hra 0 _ rfl
      have c1 := hra 1 _ rfl
      have c2 := hra 2 _ rfl
      rw [← B.out.cell hb] at c0 c1 c2
      have T := HT.out j x hx
      have N := HN.out x (List.mem_of_getElem? hx)
      have hk := (Below.refl wr.heap.size wr).alloc (Nat.le_refl _) (.cells #[.int .i64 x.op, .int .i64 x.bin, .int .u64 x.n] 94)
      have B1 := hid (B.out.alloc B.out.size (.cells #[.int .i64 x.op, .int .i64 x.bin, .int .u64 x.n] 94))
      clear HX HT HN hx ok hra
      cases ho : (x.op == 2)
      · have E2 : Hid (l = usesN (xs.take (j + 1)) ∧ m = l.length) := hid ⟨by rw [T, ho, E.out.1]; simp, E.out.2⟩
        have O2 : Hid ((wr.alloc (.cells #[.int .i64 x.op, .int .i64 x.bin, .int .u64 x.n] 94)).ownsRow w.heap.size 3 1 (.slice p m c) m (l.flatMap cellI)) := hid (own_keep O.out (fun g hg hl => hk.block g hl))
        clear E O B hk T N
        go_wp2
        go_roundw
        case rel => exact ⟨j + 1, m, c, p, l, by go_num, by omega, rfl, by omega, E2, O2, B1⟩
        case measure => simp [intOf]; omega
      · obtain ⟨n0, n1⟩ := N ho
        obtain ⟨sn, hsn⟩ := Int.eq_ofNat_of_zero_le n0
        obtain ⟨xo, xb, xn⟩ := x
        simp only at *
        subst hsn
        rw [Int.toNat_natCast] at *
        have E2 : Hid (l ++ [sn] = usesN (xs.take (j + 1)) ∧ m + 1 = (l ++ [sn]).length) := hid ⟨by rw [T, ho, E.out.1]; simp, by rw [List.length_append, ← E.out.2]; rfl⟩
        have hk2 := hk.alloc hk.size (.cells #[.int .i64 (sn : Int)] 3)
        have B2 := hid (B1.out.alloc B1.out.size (.cells #[.int .i64 (sn : Int)] 3))
        have O2 : Hid (((wr.alloc (.cells #[.int .i64 xo, .int .i64 xb, .int .u64 (sn : Int)] 94)).alloc (.cells #[.int .i64 (sn : Int)] 3)).ownsRow w.heap.size 3 1 (.slice p m c) m (l.flatMap cellI)) := hid (own_keep O.out (fun g hg hl => hk2.block g hl))
        have R2 : Hid (RowOf cellI 1 (fun _ _ => True) ((wr.alloc (.cells #[.int .i64 xo, .int .i64 xb, .int .u64 (sn : Int)] 94)).alloc (.cells #[.int .i64 (sn : Int)] 3)) (.slice (some ⟨wr.heap.size + 1, 0, none⟩) 1 1) [sn]) := hid (by
          have h3 := BoxAt.new (wr.alloc (.cells #[.int .i64 xo, .int .i64 xb, .int .u64 (sn : Int)] 94)) #[.int .i64 (sn : Int)] 3
          simp only [World.size_alloc] at h3
          refine RowOf.one ?_ trivial
          simpa [cellI] using h3)
        have wn : wrap64 (sn : Int) = (sn : Int) := by unfold wrap64; omega
        clear E O B hk hk2 T N
        go_wp2_with (first
          | (at_builtin; refine wl_append_row rfl _ _ 25 rfl w.heap.size 3 (.int .i64 0) 1 8 Tryd.underlying25 info3 rfl (by decide) (.slice p m c) rfl m (l.flatMap cellI) O2.out _ rfl (cells := cellI) (ok := fun _ _ => True) (fun _ => rfl) [sn] R2.out (by simp [cellI, Value.oneCell']) (by simp; omega) (by decide) B2.out.size ?_; intro v' w5 o5 g5 h5; obtain ⟨p2, c2', rfl⟩ := own_slice o5))
        go_roundw
        case rel =>
          refine ⟨j + 1, m + 1, c2', p2, l ++ [sn], by go_num, by omega, rfl, by omega, E2, hid ?_, hid (B2.out.trans ((Below.refl w.heap.size _).grown g5 B2.out.size (fun q hq => (own_lt O2.out hq).1)))⟩
          rw [List.flatMap_append]
          exact o5
        case measure => simp [intOf]; omega
    · have e : j = n := by omega
      subst e
      have ee := E.out
      rw [HA.out] at ee
      obtain ⟨rfl, e2⟩ := ee
      clear HX HT HN E
      go_wp2
      go_ret
      exact ⟨_, rfl, by rw [e2] at O; rw [← e2]; exact e2 ▸ O.out, B.out⟩
end Go.Proofs.YtdpbapoahfggeaaDoor
/- The contract of targetOf: to what an instruction brings something. -/
namespace Go.Proofs.YtdpbapoahfggeaaDoor
open Go.ChangeShapes Go.WideShapes Go.ChangeAt Go.RowKit Go.Deep
set_option linter.unusedVariables false
set_option linter.unusedSimpArgs false

def tgtL (c : Cd) (b : Bd) (x : Ins) : Loc := if hasD x.op then slotOf b x else if x.op == 5 then globAt c x else if x.op == 6 then fieldAt c x else Loc.z
theorem tgtL_means (c : Cd) (b : Bd) (x : Ins) : meansL (tgtL c b x) = tgtM c b x := by
  unfold tgtL tgtM
  split
  · rfl
  · split
    · rfl
    · split
      · rfl
      · rfl

theorem below4 (w : World) (o1 o2 o3 o4 : Obj) : Below w.heap.size w ((((w.alloc o1).alloc o2).alloc o3).alloc o4) := (below3 w o1 o2 o3).alloc (by simp; omega) _

/-- A struct goes into a box, in a plain region. -/
theorem wl_store_box {ops : Array Oper} {rest : List Oper} {op : Oper} {a : Act} {w : World} {Q : Exit → Act → World → Prop} (ty : TypeId) (x y : Operand) (ho : op.op = .store ty x y) (hw : Region.wanted op (yielded ops a.tmps) = true)
    (b : Nat) (hx : a.eval x = .pointer (some ⟨b, 0, none⟩)) (cs : List Value) (hy : a.eval y = .agg cs.toArray) (hi : (Tryd.prog.info? ty).map (·.size) = some cs.length) (h1 : ∀ v ∈ cs, v.oneCell' = true)
    (old : List Value) (t : TypeId) (hv : VarAt w b old t) (hl : old.length = cs.length) (hs : splice old 0 cs = cs) (h : ∀ w', VarAt w' b cs t → Turned b w w' → wpList Tryd.prog ops Q rest (a.put op.dst undef) w') : wpList Tryd.prog ops Q (op :: rest) a w :=
  wpList_step fun K hK => step_store ty x y ho hw b hx cs hy hi h1 old t hv hl hs fun w' h2 h3 => hK _ _ (h w' h2 h3)

/-- The boxes of targetOf. -/
structure TgW (w : World) (cc bc xc : List Value) (W : World) : Prop where
  b0 : VarAt W w.heap.size cc 41
  b1 : VarAt W (w.heap.size + 1) bc 55
  b2 : VarAt W (w.heap.size + 2) xc 58
  b3 : VarAt W (w.heap.size + 3) [.int .i64 0, .int .i64 0, .bool false] 60
  bel : Below w.heap.size w W
theorem TgW.start (w : World) (cc bc xc : List Value) : TgW w cc bc xc ((((w.alloc (.cells cc.toArray 41)).alloc (.cells bc.toArray 55)).alloc (.cells xc.toArray 58)).alloc (.cells #[.int .i64 0, .int .i64 0, .bool false] 60)) := by
  have h1 := (((VarAt.new (w.alloc (.cells cc.toArray 41)) bc 55).past (.cells xc.toArray 58)).past (.cells #[.int .i64 0, .int .i64 0, .bool false] 60))
  have h2 := ((VarAt.new ((w.alloc (.cells cc.toArray 41)).alloc (.cells bc.toArray 55)) xc 58).past (.cells #[.int .i64 0, .int .i64 0, .bool false] 60))
  have h3 := (VarAt.new (((w.alloc (.cells cc.toArray 41)).alloc (.cells bc.toArray 55)).alloc (.cells xc.toArray 58)) [.int .i64 0, .int .i64 0, .bool false] 60)
  simp only [World.size_alloc] at h1 h2 h3
  exact ⟨(((VarAt.new w cc 41).past _).past _).past _, h1, h2, h3, below4 _ _ _ _ _⟩
theorem TgW.kept {w W W' : World} {cc bc xc : List Value} (h : TgW w cc bc xc W) (k : Below W.heap.size W W') : TgW w cc bc xc W' := ⟨h.b0.kept k, h.b1.kept k, h.b2.kept k, h.b3.kept k, h.bel.trans (k.mono h.bel.size)⟩

theorem loc_ones (l : Loc) : ∀ v ∈ l.cells, v.oneCell' = true := by
  intro v hv
  simp only [Loc.cells, List.mem_cons, List.not_mem_nil, or_false] at hv
  rcases hv with rfl | rfl | rfl <;> rfl
theorem size56 : (Tryd.prog.info? 60).map (·.size) = some 3 := by kernel_rfl
theorem TgW.done {w W W' : World} {cc bc xc : List Value} (h : TgW w cc bc xc W) (k : Turned (w.heap.size + 3) W W') : Below w.heap.size w W' := k.below h.bel (by omega)
theorem tgt_keep {w W W2 : World} {rb ro r gb go n : Nat} {v1 v2 v3 vr v4 v5 v6 : Value} (ht : Turned (w.heap.size + 3) W W2) (hlt : gb < w.heap.size) (rlt : rb < w.heap.size)
    (d1 : W.cell? ⟨w.heap.size, 0, none⟩ = some v1) (d2 : W.cell? ⟨w.heap.size + 2, 3, none⟩ = some v2) (d3 : W.cell? ⟨w.heap.size + 2, 4, none⟩ = some v3) (cr : W.cell? ⟨rb, ro + r, none⟩ = some vr) (c0 : W.cell? ⟨gb, go + n * 3, none⟩ = some v4) (c1 : W.cell? ⟨gb, go + n * 3 + 1, none⟩ = some v5) (c2 : W.cell? ⟨gb, go + n * 3 + 2, none⟩ = some v6) :
    W2.cell? ⟨w.heap.size, 0, none⟩ = some v1 ∧ W2.cell? ⟨w.heap.size + 2, 3, none⟩ = some v2 ∧ W2.cell? ⟨w.heap.size + 2, 4, none⟩ = some v3 ∧ W2.cell? ⟨rb, ro + r, none⟩ = some vr ∧ W2.cell? ⟨gb, go + n * 3, none⟩ = some v4 ∧ W2.cell? ⟨gb, go + n * 3 + 1, none⟩ = some v5 ∧ W2.cell? ⟨gb, go + n * 3 + 2, none⟩ = some v6 := by
  have k : ∀ b o v, b ≠ w.heap.size + 3 → W.cell? ⟨b, o, none⟩ = some v → W2.cell? ⟨b, o, none⟩ = some v := fun b o v hb h => (World.cell?_of_block (ht.block b hb)).trans h
  exact ⟨k _ _ _ (by omega) d1, k _ _ _ (by omega) d2, k _ _ _ (by omega) d3, k _ _ _ (by omega) cr, k _ _ _ (by omega) c0, k _ _ _ (by omega) c1, k _ _ _ (by omega) c2⟩
/-- A local, read of a row. -/
theorem locs_at {w : World} {v : Value} {l : List Loc} (h : Locs w v l) : ∃ a cap, v = .slice a l.length cap ∧ ∀ n x, l[n]? = some x → ∃ b off, a = some ⟨b, off, none⟩ ∧ b < w.heap.size ∧ n < l.length ∧ w.cell? ⟨b, off + n * 3, none⟩ = some (.int .i64 x.kind) ∧ w.cell? ⟨b, off + n * 3 + 1, none⟩ = some (.int .i64 x.rc) ∧ w.cell? ⟨b, off + n * 3 + 2, none⟩ = some (.bool x.once) := by
  obtain ⟨a, cap, h1, hr⟩ := RowOf.at h
  refine ⟨a, cap, h1, fun n x hx => ?_⟩
  have hn := (List.getElem?_eq_some_iff.1 hx).1
  obtain ⟨y, b, off, hy, e, hlt, hra, _⟩ := hr n hn
  rw [hx] at hy; cases hy
  exact ⟨b, off, e, hlt, hn, hra 0 _ rfl, hra 1 _ rfl, hra 2 _ rfl⟩

set_option maxRecDepth 100000 in
set_option maxHeartbeats 1000000 in
theorem targetOf_any (c : Cd) (b : Bd) (x : Ins) (w : World) (hc : c.okW w) (hb : b.okW w) (hx : x.okW w) (F : InsF c b x) :
    Calls Tryd.prog 38 #[.agg c.cells.toArray, .agg b.cells.toArray, .agg x.cells.toArray] w fun e w' => e = .returned (.agg (tgtL c b x).cells.toArray) ∧ Below w.heap.size w w' := by
  obtain ⟨a0, p0, a1, p1, a2, p2, a3, p3, a4, p4, e0, e1, e2, e3, e4⟩ := cd_open hc
  obtain ⟨al, ps, es⟩ := hb.2.1.form
  obtain ⟨ac, pc, ec⟩ := hb.2.2.form
  obtain ⟨ai, pi, ei⟩ := hx.2.1.form
  obtain ⟨ax, px, ex⟩ := hx.2.2.form
  have WR := hid (fun W => writes_any x.op x.dst x.src x.rc x.n x.to ai x.items.length pi ax x.index.length px W)
  simp only [Cd.cells, Bd.cells, Ins.cells]
  rw [e0, e1, e2, e3, e4, es, ec, ei, ex]
  cases hD : hasD x.op
  · have hw : wrB x.op x.dst = -1 := by unfold wrB; rw [hD]; rfl
    rw [hw] at WR
    by_cases h5 : x.op = 5
    · obtain ⟨n, hn, hnl⟩ := F.g (.inr h5)
      obtain ⟨l, hl⟩ : ∃ l, c.globs[n]? = some l := ⟨c.globs[n], by simp [hnl]⟩
      obtain ⟨ga, gp, ge, hr⟩ := locs_at hc.2.1
      obtain ⟨gb, go, ga2, hlt, _, c0, c1, c2⟩ := hr n l hl
      rw [e1] at ge
      obtain ⟨rfl, -, rfl⟩ := Value.slice.inj ge
      subst ga2
      have hT : tgtL c b x = l := by unfold tgtL globAt; rw [hD, h5, hn, Int.toNat_natCast]; simp [List.getD, hl]
      rw [hT]
      rw [h5, hn] at WR ⊢
      have hnl' : (n : Int) < (c.globs.length : Int) := by omega
      clear hr e0 e1 e2 e3 e4 es ec ei ex hc hb hx F hD hw h5 hT hn hl ge
      have TS := hid (TgW.start w [.slice a0 c.recs.length p0, .slice (some ⟨gb, go, none⟩) c.globs.length p1, .slice a2 c.threads.length p2, .slice a3 c.sites.length p3, .slice a4 c.secs.length p4] [.slice al b.slots.length ps, .slice ac b.code.length pc, .int .i64 b.most] [.int .i64 5, .int .i64 x.dst, .int .i64 x.src, .int .i64 x.rc, .int .i64 (n : Int), .int .i64 x.to, .slice ai x.items.length pi, .slice ax x.index.length px])
      go_enter Tryd.func38, Tryd.ntmps38
      go_wp2_with (first
        | (go_at_call 62; refine Calls.mono (WR.out _) ?_; rintro _ W1 ⟨rfl, hk⟩; replace TS := hid (TS.out.kept hk); clear hk; rw [← TS.out.bel.cell hlt] at c0 c1 c2; have d1 := TS.out.b0.cell 1 (v := .slice (some ⟨gb, go, none⟩) c.globs.length p1) rfl; have d2 := TS.out.b2.cell 0 (v := .int .i64 5) rfl; have d3 := TS.out.b2.cell 4 (v := .int .i64 (n : Int)) rfl)
        | (refine wl_store_box 60 _ _ rfl rfl (w.heap.size + 3) rfl l.cells rfl size56 (loc_ones l) _ _ TS.out.b3 rfl rfl ?_; intro W2 hv ht))
      try simp only [Act.put]
      refine bodyPost_ret (results_cell_row rfl _ _ (w.heap.size + 3) _ _ _ _ rfl hv Tryd.underlying60 rfl (by kernel_rfl)) rfl ?_
      exact ⟨rfl, TS.out.done ht⟩
    · have h5' : (x.op == 5) = false := by simpa using h5
      by_cases h6 : x.op = 6
      · obtain ⟨r, n, hr, hrl, hn, hnl⟩ := F.f (.inr h6)
        obtain ⟨q, hq⟩ : ∃ q, c.recs[r]? = some q := ⟨c.recs[r], by simp [hrl]⟩
        have eq : c.recs.getD r Rl.z = q := by simp [List.getD, hq]
        rw [eq] at hnl
        obtain ⟨l, hl⟩ : ∃ l, q.flds[n]? = some l := ⟨q.flds[n], by simp [hnl]⟩
        obtain ⟨ra, rp, re, hrr⟩ := RowOf.at hc.1
        obtain ⟨q', rb, ro, hq', ra2, rlt, hra, okq⟩ := hrr r hrl
        rw [hq] at hq'; cases hq'
        rw [e0] at re
        obtain ⟨rfl, -, rfl⟩ := Value.slice.inj re
        subst ra2
        obtain ⟨ga, gp, ge, hgr⟩ := locs_at okq
        obtain ⟨gb, go, ga2, hlt, _, c0, c1, c2⟩ := hgr n l hl
        subst ga2
        have cr : w.cell? ⟨rb, ro + r, none⟩ = some (.slice (some ⟨gb, go, none⟩) q.flds.length gp) := by
          have : w.cell? ⟨rb, ro + r * 1, none⟩ = some q.fv := hra 0 _ rfl
          rw [Nat.mul_one, ge] at this
          exact this
        have hT : tgtL c b x = l := by unfold tgtL fieldAt; rw [hD, h6, hr, hn, Int.toNat_natCast, Int.toNat_natCast, eq]; simp [List.getD, hl]
        rw [hT]
        rw [h6, hn, hr] at WR ⊢
        have hnl' : (n : Int) < (q.flds.length : Int) := by omega
        have hrl' : (r : Int) < (c.recs.length : Int) := by omega
        clear hrr hgr hra e0 e1 e2 e3 e4 es ec ei ex hc hb hx F hD hw h5 h5' hT hn hl ge re okq eq hq hr h6
        have TS := hid (TgW.start w [.slice (some ⟨rb, ro, none⟩) c.recs.length p0, .slice a1 c.globs.length p1, .slice a2 c.threads.length p2, .slice a3 c.sites.length p3, .slice a4 c.secs.length p4] [.slice al b.slots.length ps, .slice ac b.code.length pc, .int .i64 b.most] [.int .i64 6, .int .i64 x.dst, .int .i64 x.src, .int .i64 (r : Int), .int .i64 (n : Int), .int .i64 x.to, .slice ai x.items.length pi, .slice ax x.index.length px])
        go_enter Tryd.func38, Tryd.ntmps38
        go_wp2_with (go_at_call 62; refine Calls.mono (WR.out _) ?_; rintro _ W1 ⟨rfl, hk⟩; replace TS := hid (TS.out.kept hk); clear hk; have d0 := TS.out.b2.cell 0 (v := .int .i64 6) rfl)
        have TSD := hid (TS.out.kept ((Below.refl _ _).drew))
        rw [← TSD.out.bel.cell hlt] at c0 c1 c2
        rw [← TSD.out.bel.cell rlt] at cr
        have d1 := TSD.out.b0.cell 0 (v := .slice (some ⟨rb, ro, none⟩) c.recs.length p0) rfl
        have d2 := TSD.out.b2.cell 3 (v := .int .i64 (r : Int)) rfl
        have d3 := TSD.out.b2.cell 4 (v := .int .i64 (n : Int)) rfl
        refine wp_region_held_drew (S := fun (w' : World) => w'.cell? ⟨w.heap.size, 0, none⟩ = some (.slice (some ⟨rb, ro, none⟩) c.recs.length p0) ∧ w'.cell? ⟨w.heap.size + 2, 3, none⟩ = some (.int .i64 (r : Int)) ∧ w'.cell? ⟨w.heap.size + 2, 4, none⟩ = some (.int .i64 (n : Int)) ∧ w'.cell? ⟨rb, ro + r, none⟩ = some (.slice (some ⟨gb, go, none⟩) q.flds.length gp) ∧ w'.cell? ⟨gb, go + n * 3, none⟩ = some (.int .i64 l.kind) ∧ w'.cell? ⟨gb, go + n * 3 + 1, none⟩ = some (.int .i64 l.rc) ∧ w'.cell? ⟨gb, go + n * 3 + 2, none⟩ = some (.bool l.once)) (by kernel_rfl) (⟨d1, d2, d3, cr, c0, c1, c2⟩) (fun hHeld => ?_)
        refine wpAnyH_take (i := 0) (oi := { dst := some 29, op := Go.Op.fieldAddr 41 (Go.Operand.tmp 3) 0, type := 0, pos := "solver.go:45", after := #[], guard := none }) (v := ?_) rfl (by kernel_rfl) (by kernel_rfl) (by kernel_rfl) (fun _ _ _ h => h) (Or.inl ⟨by rfl, ?_⟩) hHeld ?_
        rotate_left
        · intro w0 hSw; (try dsimp only at hSw); go_simp; (try with_reducible rfl)
        try simp only [Act.put, List.setIfInBounds_toArray, List.set_cons_zero, List.set_cons_succ]
        refine wpAnyH_take (i := 1) (oi := { dst := some 30, op := Go.Op.load 35 (Go.Operand.tmp 29), type := 35, pos := "solver.go:45", after := #[{ on := 0, ground := Go.Ground.data }], guard := none }) (v := ?_) rfl (by kernel_rfl) (by kernel_rfl) (by kernel_rfl) (fun _ _ _ h => h) (Or.inl ⟨by rfl, ?_⟩) hHeld ?_
        rotate_left
        · intro w0 hSw; (try dsimp only at hSw); go_simp; (try with_reducible rfl)
        try simp only [Act.put, List.setIfInBounds_toArray, List.set_cons_zero, List.set_cons_succ]
        refine wpAnyH_take (i := 2) (oi := { dst := some 31, op := Go.Op.fieldAddr 58 (Go.Operand.tmp 5) 3, type := 0, pos := "solver.go:45", after := #[], guard := none }) (v := ?_) rfl (by kernel_rfl) (by kernel_rfl) (by kernel_rfl) (fun _ _ _ h => h) (Or.inl ⟨by rfl, ?_⟩) hHeld ?_
        rotate_left
        · intro w0 hSw; (try dsimp only at hSw); go_simp; (try with_reducible rfl)
        try simp only [Act.put, List.setIfInBounds_toArray, List.set_cons_zero, List.set_cons_succ]
        refine wpAnyH_take (i := 3) (oi := { dst := some 32, op := Go.Op.load 3 (Go.Operand.tmp 31), type := 3, pos := "solver.go:45", after := #[{ on := 2, ground := Go.Ground.data }], guard := none }) (v := ?_) rfl (by kernel_rfl) (by kernel_rfl) (by kernel_rfl) (fun _ _ _ h => h) (Or.inl ⟨by rfl, ?_⟩) hHeld ?_
        rotate_left
        · intro w0 hSw; (try dsimp only at hSw); go_simp; (try with_reducible rfl)
        try simp only [Act.put, List.setIfInBounds_toArray, List.set_cons_zero, List.set_cons_succ]
        refine wpAnyH_take (i := 4) (oi := { dst := some 33, op := Go.Op.indexAddr 35 (Go.Operand.tmp 30) (Go.Operand.tmp 32), type := 0, pos := "solver.go:45", after := #[{ on := 1, ground := Go.Ground.data }, { on := 3, ground := Go.Ground.data }], guard := none }) (v := ?_) rfl (by kernel_rfl) (by kernel_rfl) (by kernel_rfl) (fun _ _ _ h => h) (Or.inl ⟨by rfl, ?_⟩) hHeld ?_
        rotate_left
        · intro w0 hSw; (try dsimp only at hSw); go_simp; (try with_reducible rfl)
        try simp only [Act.put, List.setIfInBounds_toArray, List.set_cons_zero, List.set_cons_succ]
        refine wpAnyH_take (i := 5) (oi := { dst := some 34, op := Go.Op.load 36 (Go.Operand.tmp 33), type := 36, pos := "solver.go:45", after := #[{ on := 4, ground := Go.Ground.data }], guard := none }) (v := ?_) rfl (by kernel_rfl) (by kernel_rfl) (by kernel_rfl) (fun _ _ _ h => h) (Or.inl ⟨by rfl, ?_⟩) hHeld ?_
        rotate_left
        · intro w0 hSw; (try dsimp only at hSw); go_simp; (try with_reducible rfl)
        try simp only [Act.put, List.setIfInBounds_toArray, List.set_cons_zero, List.set_cons_succ]
        refine wpAnyH_take (i := 6) (oi := { dst := some 35, op := Go.Op.fieldAddr 58 (Go.Operand.tmp 5) 4, type := 0, pos := "solver.go:45", after := #[], guard := none }) (v := ?_) rfl (by kernel_rfl) (by kernel_rfl) (by kernel_rfl) (fun _ _ _ h => h) (Or.inl ⟨by rfl, ?_⟩) hHeld ?_
        rotate_left
        · intro w0 hSw; (try dsimp only at hSw); go_simp; (try with_reducible rfl)
        try simp only [Act.put, List.setIfInBounds_toArray, List.set_cons_zero, List.set_cons_succ]
        refine wpAnyH_take (i := 7) (oi := { dst := some 36, op := Go.Op.load 3 (Go.Operand.tmp 35), type := 3, pos := "solver.go:45", after := #[{ on := 6, ground := Go.Ground.data }], guard := none }) (v := ?_) rfl (by kernel_rfl) (by kernel_rfl) (by kernel_rfl) (fun _ _ _ h => h) (Or.inl ⟨by rfl, ?_⟩) hHeld ?_
        rotate_left
        · intro w0 hSw; (try dsimp only at hSw); go_simp; (try with_reducible rfl)
        try simp only [Act.put, List.setIfInBounds_toArray, List.set_cons_zero, List.set_cons_succ]
        refine wpAnyH_take (i := 8) (oi := { dst := some 37, op := Go.Op.indexAddr 36 (Go.Operand.tmp 34) (Go.Operand.tmp 36), type := 0, pos := "solver.go:45", after := #[{ on := 5, ground := Go.Ground.data }, { on := 7, ground := Go.Ground.data }], guard := none }) (v := ?_) rfl (by kernel_rfl) (by kernel_rfl) (by kernel_rfl) (fun _ _ _ h => h) (Or.inl ⟨by rfl, ?_⟩) hHeld ?_
        rotate_left
        · intro w0 hSw; (try dsimp only at hSw); go_simp; (try with_reducible rfl)
        try simp only [Act.put, List.setIfInBounds_toArray, List.set_cons_zero, List.set_cons_succ]
        refine wpAnyH_take (i := 9) (oi := { dst := some 38, op := Go.Op.load 60 (Go.Operand.tmp 37), type := 60, pos := "solver.go:45", after := #[{ on := 8, ground := Go.Ground.data }], guard := none }) (v := ?_) rfl (by kernel_rfl) (by kernel_rfl) (by kernel_rfl) (fun _ _ _ h => h) (Or.inl ⟨by rfl, ?_⟩) hHeld ?_
        rotate_left
        · intro w0 hSw; (try dsimp only at hSw); go_simp; (try with_reducible rfl)
        try simp only [Act.put, List.setIfInBounds_toArray, List.set_cons_zero, List.set_cons_succ]
        refine wpAnyH_ready (rs := [10]) (by kernel_rfl) (by simp) ?_
        refine AllReadyH.cons (o := { dst := none, op := Go.Op.store 60 (Go.Operand.tmp 6) (Go.Operand.tmp 38), type := 0, pos := "solver.go:45", after := #[{ on := 9, ground := Go.Ground.data }, { on := 0, ground := Go.Ground.phase }, { on := 1, ground := Go.Ground.phase }, { on := 2, ground := Go.Ground.phase }, { on := 3, ground := Go.Ground.phase }, { on := 4, ground := Go.Ground.phase }, { on := 5, ground := Go.Ground.phase }, { on := 6, ground := Go.Ground.phase }, { on := 7, ground := Go.Ground.phase }, { on := 8, ground := Go.Ground.phase }, { on := 9, ground := Go.Ground.phase }], guard := none }) rfl (fun K' hK' => ?_) AllReadyH.nil
        refine step_store 60 _ _ (by rfl) (by rfl) (w.heap.size + 3) (by rfl) l.cells (by rfl) size56 (loc_ones l) _ 60 TSD.out.b3 rfl rfl ?_
        intro W2 hv ht
        have hz := hid (tgt_keep ht hlt rlt d1 d2 d3 cr c0 c1 c2)
        refine hK'.out _ _ hz.out (fun hHeld => ?_)
        clear hK' K'
        try simp only [Act.put, List.setIfInBounds_toArray, List.set_cons_zero, List.set_cons_succ]
        refine wpAnyH_done (by kernel_rfl) ?_ _
        clear hHeld
        go_wp2_with fail
        try simp only [Act.put]
        refine bodyPost_ret (results_cell_row rfl _ _ (w.heap.size + 3) _ _ _ _ rfl hv Tryd.underlying60 rfl (by kernel_rfl)) rfl ?_
        exact ⟨rfl, TSD.out.done ht⟩
      · have h6' : (x.op == 6) = false := by simpa using h6
        have hT : tgtL c b x = Loc.z := by unfold tgtL; rw [hD, h5', h6']; rfl
        rw [hT]
        clear e0 e1 e2 e3 e4 es ec ei ex hc hb hx F hD hw hT
        have TS := hid (TgW.start w [.slice a0 c.recs.length p0, .slice a1 c.globs.length p1, .slice a2 c.threads.length p2, .slice a3 c.sites.length p3, .slice a4 c.secs.length p4] [.slice al b.slots.length ps, .slice ac b.code.length pc, .int .i64 b.most] [.int .i64 x.op, .int .i64 x.dst, .int .i64 x.src, .int .i64 x.rc, .int .i64 x.n, .int .i64 x.to, .slice ai x.items.length pi, .slice ax x.index.length px])
        go_enter Tryd.func38, Tryd.ntmps38
        go_wp2_with (first
          | (go_at_call 62; refine Calls.mono (WR.out _) ?_; rintro _ W1 ⟨rfl, hk⟩; replace TS := hid (TS.out.kept hk); clear hk; have d2 := TS.out.b2.cell 0 (v := .int .i64 x.op) rfl)
          | (refine wl_store_box 60 _ _ rfl rfl (w.heap.size + 3) rfl Loc.z.cells rfl size56 (loc_ones Loc.z) _ _ TS.out.b3 rfl rfl ?_; intro W2 hv ht))
        try simp only [Act.put]
        refine bodyPost_ret (results_cell_row rfl _ _ (w.heap.size + 3) _ _ _ _ rfl hv Tryd.underlying60 rfl (by kernel_rfl)) rfl ?_
        exact ⟨rfl, TS.out.done ht⟩
  · obtain ⟨d, hd, hdl⟩ := F.d hD
    have hw : wrB x.op x.dst = (d : Int) := by unfold wrB; rw [hD, hd]; rfl
    rw [hw] at WR
    obtain ⟨l, hl⟩ : ∃ l, b.slots[d]? = some l := ⟨b.slots[d], by simp [hdl]⟩
    obtain ⟨ga, gp, ge, hr⟩ := locs_at hb.2.1
    obtain ⟨gb, go, ga2, hlt, _, c0, c1, c2⟩ := hr d l hl
    rw [es] at ge
    obtain ⟨rfl, -, rfl⟩ := Value.slice.inj ge
    subst ga2
    have hT : tgtL c b x = l := by unfold tgtL slotOf; rw [hD, hd, Int.toNat_natCast]; simp [List.getD, hl]
    rw [hT]
    have hdl' : (d : Int) < (b.slots.length : Int) := by omega
    replace hd := hid hd
    clear hr e0 e1 e2 e3 e4 es ec ei ex hc hb hx F hD hw hT hl ge
    have TS := hid (TgW.start w [.slice a0 c.recs.length p0, .slice a1 c.globs.length p1, .slice a2 c.threads.length p2, .slice a3 c.sites.length p3, .slice a4 c.secs.length p4] [.slice (some ⟨gb, go, none⟩) b.slots.length ps, .slice ac b.code.length pc, .int .i64 b.most] [.int .i64 x.op, .int .i64 x.dst, .int .i64 x.src, .int .i64 x.rc, .int .i64 x.n, .int .i64 x.to, .slice ai x.items.length pi, .slice ax x.index.length px])
    go_enter Tryd.func38, Tryd.ntmps38
    go_wp2_with (first
      | (go_at_call 62; refine Calls.mono (WR.out _) ?_; rintro _ W1 ⟨rfl, hk⟩; replace TS := hid (TS.out.kept hk); clear hk; rw [← TS.out.bel.cell hlt] at c0 c1 c2; have d1 := TS.out.b1.cell 0 (v := .slice (some ⟨gb, go, none⟩) b.slots.length ps) rfl)
      | (refine wl_store_box 60 _ _ rfl rfl (w.heap.size + 3) rfl l.cells rfl size56 (loc_ones l) _ _ TS.out.b3 rfl rfl ?_; intro W2 hv ht))
    try simp only [Act.put]
    refine bodyPost_ret (results_cell_row rfl _ _ (w.heap.size + 3) _ _ _ _ rfl hv Tryd.underlying60 rfl (by kernel_rfl)) rfl ?_
    exact ⟨rfl, TS.out.done ht⟩
end Go.Proofs.YtdpbapoahfggeaaDoor
