/- The walk of ClassWhole. -/
import Derived.Test.YtdpbapoahfggeaaDoorM13
import Derived.Test.YtdpbapoahfggeaaDoorM14
import Derived.Test.YtdpbapoahfggeaaDoorM18
import Derived.Test.YtdpbapoahfggeaaDoorM15
namespace Go.Proofs.YtdpbapoahfggeaaDoor
open Go.ChangeShapes Go.WideShapes Go.ChangeAt Go.RowKit Go.Deep
set_option linter.unusedVariables false
set_option linter.unusedSimpArgs false

theorem row_smallW {c : Cd} {R : List (List Nat)} (g : GoodP c) (h : shp R = shapeC c) (r : Nat) : (R.getD r []).length ≤ 64 := by
  rw [row_len, h]
  rcases Nat.lt_trichotomy r c.threads.length with q | q | q
  · rw [shape_slots c (i := r) (t := c.threads[r]) (by simp [q])]
    exact (g.ths r _ (by simp [q])).1
  · rw [q, shape_globs]
    have := g.l2
    omega
  · by_cases e : r < c.threads.length + 1 + c.sites.length
    · obtain ⟨k, rfl⟩ : ∃ k, r = c.threads.length + 1 + k := ⟨r - (c.threads.length + 1), by omega⟩
      have hk : k < c.sites.length := by omega
      rw [shape_site c (k := k) (s := c.sites[k]) (by simp [hk])]
      unfold fldN
      split
      · omega
      · rename_i hrc
        simp only [List.getD]
        cases hq : c.recs[(c.sites[k]).rc.toNat]? with
        | none => simp [Rl.z]
        | some q =>
          have := g.flds _ q hq
          show q.flds.length ≤ 64
          omega
    · have : (shapeC c).getD r 0 = 0 := by
        simp [List.getD, List.getElem?_eq_none (show (shapeC c).length ≤ r by rw [shape_len]; omega)]
      omega
theorem RowM.num {w : World} {v : Value} {b : Nat} {l : List Nat} (h : RowM w v b l) (hl : l.length ≤ 64) : NumR w v l := by
  obtain ⟨a, c, e, h⟩ := h
  refine ⟨a, c, by rw [e, List.length_map], by rw [List.length_map]; omega, fun i u hu => ?_⟩
  have hi : i < l.length := by have := (List.getElem?_eq_some_iff.1 hu).1; simpa using this
  obtain ⟨ea, hv⟩ := h (fun q => by rw [q] at hi; simp at hi)
  exact ⟨b, 0, ea, hv.lt, by rw [Nat.zero_add]; exact hv.cell i hu⟩
theorem OutM.rows {w : World} {base top : Nat} {v : Value} {n : Nat} {f : Nat → Value} {Bd : Nat → Prop} (h : OutM w base top v n f Bd) (hn : n ≤ 100) (g : Nat → List Nat) (hg : ∀ i, i < n → NumR w (f i) (g i)) : RowsR w v ((List.range n).map g) := by
  obtain ⟨a, c, e, h⟩ := h
  refine ⟨(List.range n).map f, ⟨a, c, by simp [e], by simp; omega, fun i u hu => ?_⟩, by simp, fun i u l hu hl => ?_⟩
  · have hi : i < n := by have := (List.getElem?_eq_some_iff.1 hu).1; simpa using this
    have : u = f i := by simpa [hi] using hu.symm
    subst this
    obtain ⟨b, off, h1, h2, h3, h4, h5, h6⟩ := h i hi
    exact ⟨b, off, h1, h4, h6⟩
  · have hi : i < n := by have := (List.getElem?_eq_some_iff.1 hu).1; simpa using this
    have e1 : u = f i := by simpa [hi] using hu.symm
    have e2 : l = g i := by simpa [hi] using hl.symm
    subst e1 e2
    exact hg i hi
theorem smallR {R : List (List Nat)} (h : AllU R) (f : Nat → Nat) (n : Nat) : Sm64 ((List.range n).map (fun i => R.getD (f i) [])) := fun l hl x hx => by
  obtain ⟨i, -, rfl⟩ := List.mem_map.1 hl
  obtain ⟨j, hj⟩ := List.mem_iff_getElem?.1 hx
  have := h (f i) j
  unfold gR at this
  rw [show (R.getD (f i) []).getD j 0 = x by simp [List.getD] at hj ⊢; simp [hj]] at this
  rw [← p64]; exact this
/-- The sets that Solve answers, as rows that are read. -/
theorem sets_read {w : World} {base top nT nS : Nat} {v0 v1 v2 : Value} {R : List (List Nat)} {V : Nat → Value} {B : Nat → Nat} (h : SetsM w base top nT nS v0 v1 v2 R V B) (hl : ∀ r, (R.getD r []).length ≤ 64) (hU : AllU R) (hT : nT ≤ 100) (hS : nS ≤ 100) :
    ∃ S l1 F, RowsR w v0 S ∧ NumR w v1 l1 ∧ RowsR w v2 F ∧ Sm64 S ∧ Sm64 [l1] ∧ Sm64 F ∧ S.length ≤ 100 ∧ F.length ≤ 100 := by
  have hr : ∀ r, r < nT + 1 + nS → NumR w (V r) (R.getD r []) := fun r hr => by
    have := h.row r (R.getD r []) (by simp [List.getD, show r < R.length by rw [h.len]; omega])
    exact this.num (hl r)
  refine ⟨(List.range nT).map (fun i => R.getD i []), R.getD nT [], (List.range nS).map (fun k => R.getD (nT + 1 + k) []), h.o0.rows hT _ (fun i hi => hr i (by omega)), ?_, h.o2.rows hS _ (fun i hi => hr _ (by omega)), smallR hU _ _, ?_, smallR hU _ _, by simp; omega, by simp; omega⟩
  · rw [h.one]; exact hr nT (by omega)
  · have := smallR hU (fun _ => nT) 1
    simpa using this
theorem splitW_any (n : Nat) (hn : n ≤ 64) (v0 v1 v2 : Value) (S : List (List Nat)) (l1 : List Nat) (F : List (List Nat)) (w : World) (h0 : RowsR w v0 S) (h1 : NumR w v1 l1) (h2 : RowsR w v2 F)
    (sS : Sm64 S) (s1 : Sm64 [l1]) (sF : Sm64 F) (hTab : Tab w) :
    Calls Tryd.prog 8 #[.int .i64 (n : Int), .agg #[v0, v1, v2]] w fun e w' => ∃ v l, e = .returned v ∧ IntR w' v l ∧ NumS n (S.flatten ++ l1 ++ F.flatten) l ∧ Below w.heap.size w w' := by
  by_cases h : 1 ≤ n
  · exact split_any n hn h v0 v1 v2 S l1 F w h0 h1 h2 sS s1 sF hTab
  · obtain rfl : n = 0 := by omega
    obtain ⟨a0, c0, rfl, -⟩ := h0.open
    obtain ⟨a1, c1, rfl, -⟩ := h1.open
    obtain ⟨a2, c2, rfl, -⟩ := h2.open
    refine Calls.mono (split_none 0 (by decide) a0 a1 a2 _ _ _ c0 c1 c2 w) ?_
    rintro _ w' ⟨rfl, hb⟩
    exact ⟨_, [], rfl, ⟨none, 0, rfl, by simp, fun i u hu => by simp at hu⟩, ⟨rfl, fun i hi => by omega, fun i k hi => by omega, fun i hi => by omega⟩, hb⟩
/-- All sites of a set are of the class of its least one. -/
theorem whole_of {n : Nat} {A l : List Nat} (h : NumS n A l) {x k : Nat} (hx : x ∈ A) (h64 : x < 18446744073709551616) (hk : k < n) (hb : x.testBit k = true) : ofL x l = l.getD k 0 := by
  have hk64 : k < 64 := bit_lt (by rw [p64]; exact h64) hb
  have hm : k ∈ bitsL x := mem_bits.2 ⟨hk64, hb⟩
  cases e : bitsL x with
  | nil => rw [e] at hm; cases hm
  | cons m t =>
    obtain ⟨m1, m2, m3⟩ := bits_head e
    have h3 := m3 k hk64 hb
    rw [ofL_cons l e]
    exact (h.same m k (by omega) hk).2 (Jo.one (meet_iff.2 ⟨by omega, hk, x, hx, m2, hb⟩))
/-- Classes count on. -/
theorem whole_step {n : Nat} {A l : List Nat} (h : NumS n A l) {i mx : Nat} (hi : i < n) (h1 : ∀ j, j < i → l.getD j 0 ≤ mx) : 1 ≤ l.getD i 0 ∧ l.getD i 0 ≤ mx + 1 := by
  refine ⟨h.pos i hi, Classical.byContradiction (fun hno => ?_)⟩
  obtain ⟨j, hj, e⟩ := h.low i hi (mx + 1) (by omega) (by omega)
  have := h1 j hj
  omega
theorem cellsF5 {w : World} {b : Nat} {x y z u v : Value} {t : TypeId} (h : VarAt w b [x, y, z, u, v] t) : w.cell? ⟨b, 0, none⟩ = some x ∧ w.cell? ⟨b, 1, none⟩ = some y ∧ w.cell? ⟨b, 2, none⟩ = some z ∧ w.cell? ⟨b, 3, none⟩ = some u ∧ w.cell? ⟨b, 4, none⟩ = some v := ⟨h.cell 0 rfl, h.cell 1 rfl, h.cell 2 rfl, h.cell 3 rfl, h.cell 4 rfl⟩
set_option maxRecDepth 100000 in
theorem open41 {H : Type} {enc : TypeId × Value → H} {W : World} {base : Nat} {v : Value} {d : DataW H} {p : List MemPlace} (hv : Value.okWide Tryd.prog W .any base 41 v) (h : DataW.Trod enc Tryd.prog W 0 (fun _ => true) true 41 v d p) : ∃ c, IsCd W v c := open28 hv h
theorem size29w : (Tryd.prog.info? 29).map (·.size) = some 3 := by kernel_rfl

set_option maxRecDepth 100000 in
set_option maxHeartbeats 4000000 in
theorem walkWhole (v0 : Value) (c : Cd) (w : World) (w0 : IsCd w v0 c) (hTab : Tab w) :
    Calls Tryd.prog 4 #[v0] w fun e w' => e = .returned (.bool true) ∧ Below w.heap.size w w' := by
  obtain ⟨rfl, hc⟩ := w0
  obtain ⟨a0, p0, a1, p1, a2, p2, a3, p3, a4, p4, e0, e1, e2, e3, e4⟩ := cd_open hc
  have A9 : ∀ W (h : Below w.heap.size w W), Calls Tryd.prog 13 #[.agg #[c.rv, c.gv, c.tv, c.ev, c.cv]] W fun e w' => (e = .returned (.bool true) ∨ SmallP c ∧ e = .returned (.bool false)) ∧ Below W.heap.size W w' := fun W h => (great_any c W (Cd.kept hc h)).mono (fun e w' k => by
    obtain ⟨q, h1, h2, h3⟩ := k
    refine ⟨?_, h3⟩
    cases q
    · exact .inr ⟨h2 rfl, h1⟩
    · exact .inl h1)
  have A13 : ∀ (s : SmallP c) W (h : Below w.heap.size w W), Calls Tryd.prog 14 #[.agg #[c.rv, c.gv, c.tv, c.ev, c.cv]] W fun e w' => (GoodP c ∧ e = .returned (.bool true) ∨ e = .returned (.bool false)) ∧ Below W.heap.size W w' := fun s W h => (rgood_says c W (Cd.kept hc h) s).mono (fun e w' k => by
    obtain ⟨q, h1, h2, h3⟩ := k
    refine ⟨?_, h3⟩
    cases q
    · exact .inr h1
    · exact .inl ⟨h2.1 rfl, h1⟩)
  have A11 : ∀ (s : SmallP c) W (h : Below w.heap.size w W), Calls Tryd.prog 15 #[.agg #[c.rv, c.gv, c.tv, c.ev, c.cv]] W (SolveP c W) := fun s W h => solve_any c W (Cd.kept hc h) s (hTab.kept h)
  rw [e0, e1, e2, e3, e4] at A9 A13 A11
  rw [e0, e1, e2, e3, e4]
  replace A9 := hid A9
  replace A13 := hid A13
  replace A11 := hid A11
  have CA := hid (fun W (h : Below w.heap.size w W) => alivec_any W (hTab.kept h))
  have hTabX := hid (fun W (k : Below w.heap.size w W) => (hTab.kept k : Tab W))
  have B := hid ((Below.refl w.heap.size w).alloc (Nat.le_refl _) (.cells #[.slice a0 c.recs.length p0, .slice a1 c.globs.length p1, .slice a2 c.threads.length p2, .slice a3 c.sites.length p3, .slice a4 c.secs.length p4] 41))
  have KC := hid (VarAt.new w [.slice a0 c.recs.length p0, .slice a1 c.globs.length p1, .slice a2 c.threads.length p2, .slice a3 c.sites.length p3, .slice a4 c.secs.length p4] 41)
  obtain ⟨y0, y1, y2, y3, y4⟩ := cellsF5 KC.out
  clear hc e0 e1 e2 e3 e4 hTab
  go_enter Tryd.func4, Tryd.ntmps4
  go_upto_region 5 with (first
    | (go_at_call 7; refine Calls.mono (CA.out _ B.out) ?_; rintro e w1 ⟨rfl, hb⟩; replace B := hid (B.out.trans (hb.mono B.out.size)); replace KC := hid (KC.out.kept hb); clear hb CA y0 y1 y2 y3 y4; obtain ⟨y0, y1, y2, y3, y4⟩ := cellsF5 KC.out)
    | (go_at_call 13; refine Calls.mono (A9.out _ B.out) ?_; rintro e w2 ⟨(rfl | ⟨hq, rfl⟩), hb⟩ <;> (replace B := hid (B.out.trans (hb.mono B.out.size)); replace KC := hid (KC.out.kept hb); clear hb A9 y0 y1 y2 y3 y4; obtain ⟨y0, y1, y2, y3, y4⟩ := cellsF5 KC.out; try replace hq := hid hq))
    | (go_at_call 14; refine Calls.mono (A13.out hq.out _ B.out) ?_; rintro e w3 ⟨(⟨hg, rfl⟩ | rfl), hb⟩ <;> (replace B := hid (B.out.trans (hb.mono B.out.size)); replace KC := hid (KC.out.kept hb); clear hb A13 y0 y1 y2 y3 y4; obtain ⟨y0, y1, y2, y3, y4⟩ := cellsF5 KC.out; try replace hg := hid hg)))
  any_goals
    go_ret
    exact ⟨rfl, B.out⟩
  rename_i K hK
  replace hK := hid hK
  have G := hid hg.out
  have DS2 := hid (A11.out hq.out)
  have hS64 : c.sites.length ≤ 64 := by have := G.out.l4; omega
  have SR := hid (fun (y : World) (base top : Nat) (v0 v1 v2 : Value) (R : List (List Nat)) (V : Nat → Value) (BB : Nat → Nat) (sm : SetsM y base top c.threads.length c.sites.length v0 v1 v2 R V BB) (le : Least c R) => sets_read sm (row_smallW G.out le.1.1) (le.1.allU G.out) (by have := G.out.l3; omega) (by have := G.out.l4; omega))
  clear A11 hq hg
  go_wp2_with (first
    | (go_at_call 15; refine Calls.mono (DS2.out _ B.out) ?_; rintro _ y ⟨v0, v1, v2, rfl, bl, hs, -⟩; obtain ⟨R, V, BB, sm, le⟩ := hs G.out; obtain ⟨S, l1, F, r0, r1, r2, sS, s1, sF, nS, nF⟩ := SR.out _ _ _ _ _ _ _ _ _ sm le; replace B := hid (B.out.trans (bl.mono B.out.size)); replace KC := hid (KC.out.kept bl); have VS := hid (VarAt.new y [.slice none 0 0, .slice none 0 0, .slice none 0 0] 29); obtain ⟨s0, q0, rfl, -⟩ := r0.open; obtain ⟨sg, q1, rfl, -⟩ := NumR.open r1; obtain ⟨s2, q2, rfl, -⟩ := r2.open; have HR0 := hid r0; have HR1 := hid r1; have HR2 := hid r2; have HSM := hid (⟨sS, s1, sF⟩ : Sm64 S ∧ Sm64 [l1] ∧ Sm64 F); clear r0 r1 r2 sS s1 sF sm le bl hs DS2 SR y0 y1 y2 y3 y4)
    | (refine wl_store_all 29 _ _ rfl rfl _ rfl [.slice s0 S.length q0, .slice sg l1.length q1, .slice s2 F.length q2] rfl size29w (ones3 rfl rfl rfl) _ _ VS.out rfl ?_; intro z hv ht))
  try simp only [Act.put]
  refine hK.out _ _ ?_
  clear hK K
  generalize c.sites.length = n at *
  have ba := (Below.refl y.heap.size y).alloc (Nat.le_refl _) (.cells #[.slice none 0 0, .slice none 0 0, .slice none 0 0] 29)
  have kl := KC.out.lt
  have Ky := hid (ht.below ba (Nat.le_refl _))
  have Bz := hid (ht.below (B.out.trans (ba.mono B.out.size)) B.out.size)
  have KZ := hid (ht.var (KC.out.kept ba) (by omega))
  have k3 := KZ.out.cell 3 rfl
  have VZ := hid hv
  obtain ⟨m0, m1, m2⟩ := cellsT3 hv
  have hMz := hv.lt
  have C8 := hid (splitW_any n hS64 _ _ _ S l1 F z (HR0.out.kept Ky.out) (HR1.out.kept Ky.out) (HR2.out.kept Ky.out) HSM.out.1 HSM.out.2.1 HSM.out.2.2 (hTabX.out z Bz.out))
  have HZ := hid (⟨HR0.out.kept Ky.out, HR1.out.kept Ky.out, HR2.out.kept Ky.out⟩ : RowsR z (.slice s0 S.length q0) S ∧ NumR z (.slice sg l1.length q1) l1 ∧ RowsR z (.slice s2 F.length q2) F)
  generalize y.heap.size = M at *
  clear hv ht ba kl HR0 HR1 HR2 B KC VS Ky
  go_wp2_with (go_at_call 8; refine Calls.mono C8.out ?_; rintro _ w4 ⟨v, l, rfl, hI, hN, hb4⟩; have B4 := hid (Bz.out.trans (hb4.mono Bz.out.size)); have hll := hN.len; obtain ⟨ra, rc, rfl, -, -⟩ := IntR.open hI; have I4 := hid hI; have N4 := hid hN; have V4 := hid (VZ.out.kept hb4); have k3' := (KZ.out.kept hb4).cell 3 rfl; have H4 := hid (⟨HZ.out.1.kept hb4, HZ.out.2.1.kept hb4, HZ.out.2.2.kept hb4⟩ : RowsR w4 (.slice s0 S.length q0) S ∧ NumR w4 (.slice sg l1.length q1) l1 ∧ RowsR w4 (.slice s2 F.length q2) F); have hM4 := hid (Nat.lt_of_lt_of_le hMz hb4.size); clear hI hN hb4 C8)
  have HA := hid (fun i (hi : i < n) X (h : Below w4.heap.size w4 X) => (show ∃ b off, ra = some ⟨b, off, none⟩ ∧ X.cell? ⟨b, off + i, none⟩ = some (.int .i64 ((l.getD i 0 : Nat) : Int)) from by
    obtain ⟨a1, c1, e1, _, h1⟩ := IntR.open I4.out
    obtain ⟨rfl, -, -⟩ := Value.slice.inj e1
    obtain ⟨b, off, k1, k2, k3⟩ := h1 i (by omega)
    exact ⟨b, off, k1, by rw [h.cell k2]; exact k3⟩))
  have WS := hid (fun i mx (hi : i < n) (h1 : ∀ j, j < i → l.getD j 0 ≤ mx) => whole_step N4.out hi h1)
  have WO := hid (fun x k (hx : x ∈ S.flatten ++ l1 ++ F.flatten) (h64 : x < 18446744073709551616) (hk : k < n) (hb : x.testBit k = true) => whole_of N4.out hx h64 hk hb)
  have CO0 := hid (fun x (hx : x < 18446744073709551616) W (k : Below w4.heap.size w4 W) => of_any x hx _ l W (I4.out.kept k) (hTabX.out W (B4.out.trans (k.mono B4.out.size))))
  rw [hll] at CO0
  clear Bz KZ VZ HZ N4 I4 hTabX G k3 m0 m1 m2 hMz
  go_loopw [5, 37] (fun t5 ti wr => ∃ (i mx : Nat), t5 = .int .i64 (mx : Int) ∧ ti = .int .i64 (i : Int) ∧ i ≤ n ∧ mx ≤ i ∧ Hid (∀ j, j < i → l.getD j 0 ≤ mx) ∧ wr = w4) (fun _ t _ => n - (intOf t).toNat)
  case atStart => exact ⟨0, 0, rfl, rfl, by omega, by omega, hid (fun j hj => by omega), rfl⟩
  case round =>
    obtain ⟨i, mx, rfl, rfl, hi, hmx, hle, hwr⟩ := hrel
    subst hwr
    by_cases hin : i < n
    · obtain ⟨b1, o1, rfl, c1⟩ := HA.out i hin _ (Below.refl _ _)
      obtain ⟨x1, x2⟩ := WS.out i mx hin hle.out
      have hnew : Hid (∀ j, j < i + 1 → l.getD j 0 ≤ max mx (l.getD i 0)) := hid (fun j hj => by
        by_cases e : j = i
        · subst e; omega
        · have := hle.out j (by omega); omega)
      generalize l.getD i 0 = x at *
      have hinI : (i : Int) < (n : Int) := by omega
      have x1I : ¬ (x : Int) < 1 := by omega
      have x2I : ¬ ((mx : Int) + 1 < (x : Int)) := by omega
      have hmm : max (mx : Int) (x : Int) = ((max mx x : Nat) : Int) := by omega
      have hmb : max mx x ≤ i + 1 := by omega
      generalize max mx x = mm at *
      clear HA WS WO CO0 H4 hle k3'
      go_wp2_with fail
      go_roundw
      case rel => exact ⟨i + 1, mm, by first | rfl | go_num, by go_num, by omega, by omega, hnew, by first | rfl | trivial⟩
      case measure => simp [intOf]; omega
    · have e : i = n := by omega
      subst e
      obtain ⟨us0, U0, e0, N0, one0⟩ := H4.out.1.vals
      obtain ⟨us2, U2, e2, N2, one2⟩ := H4.out.2.2.vals
      have NN := hid (nums_app (L := [l1] ++ S) (by simp [e0]) (nums_app (us := [.slice sg l1.length q1]) (L := [l1]) rfl (nums_one H4.out.2.1) N0) N2)
      have n63 : Hid (1 + us0.length ≤ 2000000 ∧ 1 + us0.length + us2.length ≤ 2000000) := hid (by omega)
      have hlen : Hid (1 + us0.length + us2.length = ([l1] ++ S ++ F).length) := hid (by simp [e0, e2]; omega)
      replace U0 := hid U0
      replace U2 := hid U2
      replace one0 := hid one0
      replace one2 := hid one2
      have BX := hid ((Below.refl wr.heap.size wr).drew)
      have VX := hid V4.out.drew
      have sX : Hid (wr.heap.size ≤ wr.drew.heap.size) := hid (Nat.le_refl _)
      have SML : Hid (Sm64 ([l1] ++ S ++ F)) := hid (fun q hq => by
        rcases List.mem_append.1 hq with k | k
        · rcases List.mem_append.1 k with k | k
          · exact HSM.out.2.1 q k
          · exact HSM.out.1 q k
        · exact HSM.out.2.2 q k)
      have HIN : Hid (∀ i, i < ([l1] ++ S ++ F).length → ∀ x ∈ ([l1] ++ S ++ F).getD i [], x ∈ S.flatten ++ l1 ++ F.flatten) := hid (fun i hi x hx => by
        have : x ∈ ([l1] ++ S ++ F).flatten := List.mem_flatten.2 ⟨_, List.mem_of_getElem? (getD_at hi), hx⟩
        simp only [List.flatten_append, List.mem_append, List.flatten_singleton] at this ⊢
        rcases this with (k | k) | k
        · exact .inl (.inr k)
        · exact .inl (.inl k)
        · exact .inr k)
      have usl : Hid (([Value.slice sg l1.length q1] ++ us0 ++ us2).length = ([l1] ++ S ++ F).length) := hid (by simp [e0, e2])
      have hLL : ([l1] ++ S ++ F).length ≤ 300 := by simp; omega
      clear H4 HSM WS hle e0 e2 N0 N2 k3' nS nF
      generalize [l1] ++ S ++ F = LL at *
      go_wp2_with fail
      refine wp_region_held_drew (S := fun (w' : World) => w'.cell? ⟨M, 0, none⟩ = some (.slice s0 S.length q0) ∧ w'.cell? ⟨M, 1, none⟩ = some (.slice sg l1.length q1) ∧ w'.cell? ⟨M, 2, none⟩ = some (.slice s2 F.length q2)) (by kernel_rfl) (cellsT3 V4.out.drew) (fun hHeld => ?_)
      generalize wr.drew = X at *
      refine wT 0 { dst := some 53, op := Go.Op.fieldAddr 29 (Go.Operand.tmp 3) 1, type := 0, pos := "law.go:88", after := #[], guard := none } hHeld ?_
      try simp only [Act.put, sA, sB, sC]
      refine wT 1 { dst := some 54, op := Go.Op.load 27 (Go.Operand.tmp 53), type := 27, pos := "law.go:88", after := #[{ on := 0, ground := Go.Ground.data }], guard := none } hHeld ?_
      try simp only [Act.put, sA, sB, sC]
      refine wT 3 { dst := some 56, op := Go.Op.fieldAddr 29 (Go.Operand.tmp 3) 0, type := 0, pos := "law.go:88", after := #[], guard := none } hHeld ?_
      try simp only [Act.put, sA, sB, sC]
      refine wT 4 { dst := some 57, op := Go.Op.load 22 (Go.Operand.tmp 56), type := 22, pos := "law.go:88", after := #[{ on := 3, ground := Go.Ground.data }], guard := none } hHeld ?_
      try simp only [Act.put, sA, sB, sC]
      refine wT 6 { dst := some 59, op := Go.Op.fieldAddr 29 (Go.Operand.tmp 3) 2, type := 0, pos := "law.go:88", after := #[], guard := none } hHeld ?_
      try simp only [Act.put, sA, sB, sC]
      refine wT 7 { dst := some 60, op := Go.Op.load 22 (Go.Operand.tmp 59), type := 22, pos := "law.go:88", after := #[{ on := 6, ground := Go.Ground.data }], guard := none } hHeld ?_
      try simp only [Act.put, sA, sB, sC]
      refine wT 10 { dst := some 63, op := Go.Op.move (Go.Operand.const (Go.Value.int Go.IntKind.i64 0)), type := 3, pos := "law.go:88", after := #[], guard := none } hHeld ?_
      try simp only [Act.put, sA, sB, sC]
      refine wO 2 { dst := some 55, op := Go.Op.buildSlice 22 1 #[(0, Go.Operand.tmp 54)], type := 22, pos := "law.go:88", after := #[{ on := 1, ground := Go.Ground.data }], guard := none } (fun K' hK' => ?_)
      go_simp
      have O3 := hid (own_lowB (base := wr.heap.size) (own_oneV X (.slice sg l1.length q1)) sX.out)
      have B3 := hid (BX.out.alloc BX.out.size (.cells #[.slice sg l1.length q1] 27))
      have b3 : Hid (wr.heap.size ≤ (X.alloc (.cells #[.slice sg l1.length q1] 27)).heap.size) := hid (by rw [World.size_alloc]; have := sX.out; omega)
      have V3 := hid (VX.out.past (.cells #[.slice sg l1.length q1] 27))
      have hz := hid (cellsT3 V3.out)
      generalize X.alloc (.cells #[.slice sg l1.length q1] 27) = Y at *
      refine hK'.out _ _ hz.out (fun hHeld => ?_)
      clear hK' K'
      try simp only [Act.put, sA, sB, sC]
      refine wO 5 { dst := some 58, op := Go.Op.call { callee := Go.Callee.builtin Go.Builtin.append, args := #[Go.Operand.tmp 55, Go.Operand.tmp 57], argTypes := #[22, 22] }, type := 22, pos := "law.go:88", after := #[{ on := 2, ground := Go.Ground.data }, { on := 4, ground := Go.Ground.data }], guard := none } (fun K' hK' => ?_)
      refine step_appendV (by rfl) _ _ (by rfl) wr.heap.size (.slice (some ⟨X.heap.size, 0, none⟩) 1 1) (by rfl) 1 [.slice sg l1.length q1] O3.out _ (by rfl) us0 (U0.out.kept B3.out) one0.out n63.out.1 b3.out ?_
      intro v5 w5 o5 g5 h5
      have T5 := grown_touch g5 O3.out
      have B5 := hid (below_touch B3.out T5 (fun i hi q => by have := (own_lt O3.out q).1; omega))
      have V5 := hid (V3.out.touch T5 (fun q => by have := (own_lt O3.out q).1; have := hM4.out; omega))
      have hz := hid (cellsT3 V5.out)
      have b5 : Hid (wr.heap.size ≤ w5.heap.size) := hid (Nat.le_trans b3.out T5.size)
      have O5 := hid o5
      obtain ⟨p5, c5, rfl⟩ := own_slice o5
      clear T5 h5 g5 o5
      refine hK'.out _ _ hz.out (fun hHeld => ?_)
      clear hK' K'
      try simp only [Act.put, sA, sB, sC]
      refine wO 8 { dst := some 61, op := Go.Op.call { callee := Go.Callee.builtin Go.Builtin.append, args := #[Go.Operand.tmp 58, Go.Operand.tmp 60], argTypes := #[22, 22] }, type := 22, pos := "law.go:88", after := #[{ on := 5, ground := Go.Ground.data }, { on := 7, ground := Go.Ground.data }, { on := 5, ground := Go.Ground.chain }], guard := none } (fun K' hK' => ?_)
      refine step_appendV (by rfl) _ _ (by rfl) wr.heap.size (.slice p5 (1 + us0.length) c5) (by rfl) (1 + us0.length) _ O5.out _ (by rfl) us2 (U2.out.kept B5.out) one2.out n63.out.2 b5.out ?_
      intro v6 w6 o6 g6 h6
      have T6 := grown_touch g6 O5.out
      have B6 := hid (below_touch B5.out T6 (fun i hi q => by have := (own_lt O5.out q).1; omega))
      have V7 := hid (V5.out.touch T6 (fun q => by have := (own_lt O5.out q).1; have := hM4.out; omega))
      have hz := hid (cellsT3 V7.out)
      rw [hlen.out] at o6
      have O6 := hid o6
      obtain ⟨p6, c6, rfl⟩ := own_slice o6
      clear T6 h6 g6 o6
      refine hK'.out _ _ hz.out (fun hHeld => ?_)
      clear hK' K'
      try simp only [Act.put, sA, sB, sC]
      refine wT 9 { dst := some 62, op := Go.Op.call { callee := Go.Callee.builtin Go.Builtin.len, args := #[Go.Operand.tmp 61], argTypes := #[22] }, type := 3, pos := "law.go:88", after := #[{ on := 8, ground := Go.Ground.data }], guard := none } hHeld ?_
      try simp only [Act.put, sA, sB, sC]
      refine wpAnyH_done (by kernel_rfl) ?_ _
      clear hHeld
      have RV : RowsR w6 (.slice p6 LL.length c6) LL := ⟨_, own_vals O6.out usl.out.symm (by rw [usl.out]; omega), usl.out, fun i u q hu hq => (NN.out i u q hu hq).kept B6.out⟩
      have RD := hid (RV.rd (G := fun X => Below w6.heap.size w6 X) (fun X h => h))
      generalize S.flatten ++ l1 ++ F.flatten = A at *
      clear RV NN n63 hlen U0 U2 one0 one2 BX VX sX V3 V5 V7 B3 B5 O3 O5 O6 b3 b5 hz usl V4 hM4
      obtain ⟨pa, pc, pe, -, hrd⟩ := RD.out
      obtain ⟨rfl, -, rfl⟩ := Value.slice.inj pe
      replace hrd := hid hrd
      clear RD pe
      go_wp2_with fail
      go_loopw [63] (fun ti wr => ∃ a : Nat, ti = .int .i64 (a : Int) ∧ a ≤ LL.length ∧ Hid (Below w6.heap.size w6 wr)) (fun t _ => LL.length - (intOf t).toNat)
      case atStart => exact ⟨0, rfl, by omega, hid (Below.refl _ _)⟩
      case round =>
        obtain ⟨a, rfl, ha, D⟩ := hrel
        by_cases hal : a < LL.length
        · obtain ⟨b, off, u, rfl, hc, hu⟩ := hrd.out _ D.out a hal
          obtain ⟨ua, uc, rfl, hln, hrow⟩ := hu
          have haI : (a : Int) < (LL.length : Int) := by omega
          have hx64 := hid (fun k hk => sm_at SML.out hal (k := k) hk)
          have hxin := hid (fun x hx => HIN.out a hal x hx)
          have hnext : Hid (a + 1 ≤ LL.length) := hid (by omega)
          generalize LL.getD a [] = li at *
          replace hrow := hid hrow
          clear hrd SML HIN
          go_wp2_with fail
          clear hc
          go_loopw [69] (fun tj wr => ∃ j : Nat, tj = .int .i64 (j : Int) ∧ j ≤ li.length ∧ Hid (Below w6.heap.size w6 wr)) (fun t _ => li.length - (intOf t).toNat)
          case atStart => exact ⟨0, rfl, by omega, D⟩
          case round =>
            clear D
            obtain ⟨j, rfl, hj, D⟩ := hrel
            by_cases hjl : j < li.length
            · obtain ⟨b', off', rfl, cx⟩ := hrow.out _ D.out j hjl
              have hx := hx64.out j hjl
              have hxa := hxin.out (li.getD j 0) (List.mem_of_getElem? (getD_at hjl))
              have hjI : (j : Int) < (li.length : Int) := by omega
              have hnext2 : Hid (j + 1 ≤ li.length) := hid (by omega)
              generalize li.getD j 0 = x at *
              have WX := hid (fun k (hk : k < i) (hb : x.testBit k = true) => WO.out x k hxa hx hk hb)
              have CX := hid (fun W (h : Below w6.heap.size w6 W) => CO0.out x hx W (B6.out.trans (h.mono B6.out.size)))
              clear hrow hx64 hxin WO CO0 hxa
              go_wp2_with fail
              clear cx
              go_loopw [75] (fun tk wr => ∃ k : Nat, tk = .int .i64 (k : Int) ∧ k ≤ i ∧ Hid (Below w6.heap.size w6 wr)) (fun t _ => i - (intOf t).toNat)
              case atStart => exact ⟨0, rfl, by omega, D⟩
              case round =>
                clear D
                obtain ⟨k, rfl, hk, D⟩ := hrel
                by_cases hki : k < i
                · have hkI : (k : Int) < (i : Int) := by omega
                  obtain ⟨b1, o1, rfl, -⟩ := HA.out k hki _ (B6.out.trans (D.out.mono B6.out.size))
                  have SZ := hid (fun X (h : Below wr.heap.size wr X) => (by
                    obtain ⟨b2, o2, e2, c2⟩ := HA.out k hki X (B6.out.trans ((D.out.trans (h.mono D.out.size)).mono B6.out.size))
                    cases e2
                    exact c2 : X.cell? ⟨b1, o1 + k, none⟩ = some (.int .i64 ((l.getD k 0 : Nat) : Int))))
                  have CH := hid (fun W => (show Calls Tryd.prog 11 #[.int .u64 (x : Int), .int .i64 (k : Int)] W fun e w' => e = .returned (.bool (x.testBit k)) ∧ w' = W from by have := hasS_any x (by rw [p64]; exact hx) (k : Int) W; rw [hasB_nat x k (by omega)] at this; exact this))
                  have CO := hid (fun W (h : Below wr.heap.size wr W) => CX.out W (D.out.trans (h.mono D.out.size)))
                  have WK := WX.out k hki
                  have hkn : Hid (k + 1 ≤ i) := hid (by omega)
                  clear HA WX CX
                  cases hb : x.testBit k
                  · rw [hb] at CH
                    generalize l.getD k 0 = yk at *
                    clear WK CO
                    go_wp2_with fail
                    refine wp_region_held_drew (S := fun (w' : World) => w'.cell? ⟨b1, o1 + k, none⟩ = some (.int .i64 (yk : Int))) (by kernel_rfl) (SZ.out _ (Below.refl _ _).drew) (fun hHeld => ?_)
                    refine wT 0 { dst := some 78, op := Go.Op.move (Go.Operand.tmp 11), type := 23, pos := "law.go:91", after := #[], guard := none } hHeld ?_
                    try simp only [Act.put, sA, sB, sC]
                    refine wT 1 { dst := some 79, op := Go.Op.move (Go.Operand.tmp 12), type := 3, pos := "law.go:91", after := #[], guard := none } hHeld ?_
                    try simp only [Act.put, sA, sB, sC]
                    refine wO 2 { dst := some 80, op := Go.Op.call { callee := Go.Callee.value (Go.Operand.func 11), args := #[Go.Operand.tmp 78, Go.Operand.tmp 79], argTypes := #[23, 3] }, type := 4, pos := "law.go:91", after := #[{ on := 0, ground := Go.Ground.data }, { on := 1, ground := Go.Ground.data }], guard := none } (fun K' hK' => ?_)
                    go_simp
                    go_at_call 11
                    refine Calls.mono (CH.out _) ?_
                    rintro _ w8 ⟨rfl, rfl⟩
                    have hz := hid hHeld
                    refine hK'.out _ _ hz.out (fun hHeld => ?_)
                    clear hK' K'
                    try simp only [Act.put, sA, sB, sC]
                    refine wT 3 { dst := some 81, op := Go.Op.move (Go.Operand.tmp 80), type := 4, pos := "law.go:91", after := #[{ on := 2, ground := Go.Ground.data }, { on := 2, ground := Go.Ground.chain }], guard := none } hHeld ?_
                    try simp only [Act.put, sA, sB, sC]
                    refine wU 4 { dst := some 82, op := Go.Op.move (Go.Operand.tmp 11), type := 23, pos := "law.go:91", after := #[{ on := 3, ground := Go.Ground.guard }], guard := some (3, true) } hHeld ?_
                    try simp only [Act.put, sA, sB, sC]
                    refine wU 5 { dst := some 83, op := Go.Op.move (Go.Operand.tmp 4), type := 25, pos := "law.go:91", after := #[{ on := 3, ground := Go.Ground.guard }], guard := some (3, true) } hHeld ?_
                    try simp only [Act.put, sA, sB, sC]
                    refine wU 6 { dst := some 84, op := Go.Op.call { callee := Go.Callee.value (Go.Operand.func 12), args := #[Go.Operand.tmp 82, Go.Operand.tmp 83], argTypes := #[23, 25] }, type := 3, pos := "law.go:91", after := #[{ on := 4, ground := Go.Ground.data }, { on := 5, ground := Go.Ground.data }, { on := 3, ground := Go.Ground.chain }, { on := 3, ground := Go.Ground.guard }], guard := some (3, true) } hHeld ?_
                    try simp only [Act.put, sA, sB, sC]
                    refine wU 7 { dst := some 85, op := Go.Op.move (Go.Operand.tmp 4), type := 25, pos := "law.go:91", after := #[{ on := 3, ground := Go.Ground.guard }], guard := some (3, true) } hHeld ?_
                    try simp only [Act.put, sA, sB, sC]
                    refine wU 8 { dst := some 86, op := Go.Op.move (Go.Operand.tmp 12), type := 3, pos := "law.go:91", after := #[{ on := 3, ground := Go.Ground.guard }], guard := some (3, true) } hHeld ?_
                    try simp only [Act.put, sA, sB, sC]
                    refine wU 9 { dst := some 87, op := Go.Op.indexAddr 25 (Go.Operand.tmp 85) (Go.Operand.tmp 86), type := 0, pos := "law.go:91", after := #[{ on := 7, ground := Go.Ground.data }, { on := 8, ground := Go.Ground.data }, { on := 3, ground := Go.Ground.guard }], guard := some (3, true) } hHeld ?_
                    try simp only [Act.put, sA, sB, sC]
                    refine wU 10 { dst := some 88, op := Go.Op.load 3 (Go.Operand.tmp 87), type := 3, pos := "law.go:91", after := #[{ on := 9, ground := Go.Ground.data }, { on := 3, ground := Go.Ground.guard }], guard := some (3, true) } hHeld ?_
                    try simp only [Act.put, sA, sB, sC]
                    refine wU 11 { dst := some 89, op := Go.Op.binOp Go.BinOp.neq 3 (Go.Operand.tmp 84) (Go.Operand.tmp 88) 3, type := 4, pos := "law.go:91", after := #[{ on := 6, ground := Go.Ground.data }, { on := 10, ground := Go.Ground.data }, { on := 3, ground := Go.Ground.guard }], guard := some (3, true) } hHeld ?_
                    try simp only [Act.put, sA, sB, sC]
                    refine wT 12 { dst := some 90, op := Go.Op.pick (Go.Operand.tmp 81) (Go.Operand.tmp 89) (Go.Operand.const (Go.Value.bool false)), type := 4, pos := "law.go:91", after := #[{ on := 3, ground := Go.Ground.data }, { on := 11, ground := Go.Ground.data }], guard := none } hHeld ?_
                    try simp only [Act.put, sA, sB, sC]
                    refine wpAnyH_done (by kernel_rfl) ?_ _
                    clear hHeld
                    go_wp2_with fail
                    go_roundw
                    case rel => exact ⟨k + 1, by go_num, hkn.out, hid D.out.drew⟩
                    case measure => have := hkn.out; simp [intOf]; omega
                  · rw [hb] at CH
                    rw [WK hb] at CO
                    clear WK
                    generalize l.getD k 0 = yk at *
                    go_wp2_with fail
                    refine wp_region_held_drew (S := fun (w' : World) => w'.cell? ⟨b1, o1 + k, none⟩ = some (.int .i64 (yk : Int))) (by kernel_rfl) (SZ.out _ (Below.refl _ _).drew) (fun hHeld => ?_)
                    refine wT 0 { dst := some 78, op := Go.Op.move (Go.Operand.tmp 11), type := 23, pos := "law.go:91", after := #[], guard := none } hHeld ?_
                    try simp only [Act.put, sA, sB, sC]
                    refine wT 1 { dst := some 79, op := Go.Op.move (Go.Operand.tmp 12), type := 3, pos := "law.go:91", after := #[], guard := none } hHeld ?_
                    try simp only [Act.put, sA, sB, sC]
                    refine wO 2 { dst := some 80, op := Go.Op.call { callee := Go.Callee.value (Go.Operand.func 11), args := #[Go.Operand.tmp 78, Go.Operand.tmp 79], argTypes := #[23, 3] }, type := 4, pos := "law.go:91", after := #[{ on := 0, ground := Go.Ground.data }, { on := 1, ground := Go.Ground.data }], guard := none } (fun K' hK' => ?_)
                    go_simp
                    go_at_call 11
                    refine Calls.mono (CH.out _) ?_
                    rintro _ w8 ⟨rfl, rfl⟩
                    have hz := hid hHeld
                    refine hK'.out _ _ hz.out (fun hHeld => ?_)
                    clear hK' K'
                    try simp only [Act.put, sA, sB, sC]
                    refine wT 3 { dst := some 81, op := Go.Op.move (Go.Operand.tmp 80), type := 4, pos := "law.go:91", after := #[{ on := 2, ground := Go.Ground.data }, { on := 2, ground := Go.Ground.chain }], guard := none } hHeld ?_
                    try simp only [Act.put, sA, sB, sC]
                    refine wT 4 { dst := some 82, op := Go.Op.move (Go.Operand.tmp 11), type := 23, pos := "law.go:91", after := #[{ on := 3, ground := Go.Ground.guard }], guard := some (3, true) } hHeld ?_
                    try simp only [Act.put, sA, sB, sC]
                    refine wT 5 { dst := some 83, op := Go.Op.move (Go.Operand.tmp 4), type := 25, pos := "law.go:91", after := #[{ on := 3, ground := Go.Ground.guard }], guard := some (3, true) } hHeld ?_
                    try simp only [Act.put, sA, sB, sC]
                    refine wT 7 { dst := some 85, op := Go.Op.move (Go.Operand.tmp 4), type := 25, pos := "law.go:91", after := #[{ on := 3, ground := Go.Ground.guard }], guard := some (3, true) } hHeld ?_
                    try simp only [Act.put, sA, sB, sC]
                    refine wT 8 { dst := some 86, op := Go.Op.move (Go.Operand.tmp 12), type := 3, pos := "law.go:91", after := #[{ on := 3, ground := Go.Ground.guard }], guard := some (3, true) } hHeld ?_
                    try simp only [Act.put, sA, sB, sC]
                    refine wT 9 { dst := some 87, op := Go.Op.indexAddr 25 (Go.Operand.tmp 85) (Go.Operand.tmp 86), type := 0, pos := "law.go:91", after := #[{ on := 7, ground := Go.Ground.data }, { on := 8, ground := Go.Ground.data }, { on := 3, ground := Go.Ground.guard }], guard := some (3, true) } hHeld ?_
                    try simp only [Act.put, sA, sB, sC]
                    refine wT 10 { dst := some 88, op := Go.Op.load 3 (Go.Operand.tmp 87), type := 3, pos := "law.go:91", after := #[{ on := 9, ground := Go.Ground.data }, { on := 3, ground := Go.Ground.guard }], guard := some (3, true) } hHeld ?_
                    try simp only [Act.put, sA, sB, sC]
                    refine wO 6 { dst := some 84, op := Go.Op.call { callee := Go.Callee.value (Go.Operand.func 12), args := #[Go.Operand.tmp 82, Go.Operand.tmp 83], argTypes := #[23, 25] }, type := 3, pos := "law.go:91", after := #[{ on := 4, ground := Go.Ground.data }, { on := 5, ground := Go.Ground.data }, { on := 3, ground := Go.Ground.chain }, { on := 3, ground := Go.Ground.guard }], guard := some (3, true) } (fun K' hK' => ?_)
                    go_simp
                    go_at_call 12
                    refine Calls.mono (CO.out _ (Below.refl _ _).drew) ?_
                    rintro _ w9 ⟨rfl, hb9⟩
                    have k9 := hid ((Below.refl _ _).drew.trans hb9)
                    have hz := hid (SZ.out w9 k9.out)
                    clear hb9
                    refine hK'.out _ _ hz.out (fun hHeld => ?_)
                    clear hK' K'
                    try simp only [Act.put, sA, sB, sC]
                    refine wT 11 { dst := some 89, op := Go.Op.binOp Go.BinOp.neq 3 (Go.Operand.tmp 84) (Go.Operand.tmp 88) 3, type := 4, pos := "law.go:91", after := #[{ on := 6, ground := Go.Ground.data }, { on := 10, ground := Go.Ground.data }, { on := 3, ground := Go.Ground.guard }], guard := some (3, true) } (v := .bool false) hHeld ?_ (by intro w0 hSw; (try dsimp only at hSw); go_simp; first | done | simp)
                    try simp only [Act.put, sA, sB, sC]
                    refine wT 12 { dst := some 90, op := Go.Op.pick (Go.Operand.tmp 81) (Go.Operand.tmp 89) (Go.Operand.const (Go.Value.bool false)), type := 4, pos := "law.go:91", after := #[{ on := 3, ground := Go.Ground.data }, { on := 11, ground := Go.Ground.data }], guard := none } hHeld ?_
                    try simp only [Act.put, sA, sB, sC]
                    refine wpAnyH_done (by kernel_rfl) ?_ _
                    clear hHeld
                    go_wp2_with fail
                    go_roundw
                    case rel => exact ⟨k + 1, by go_num, hkn.out, hid (D.out.trans (k9.out.mono D.out.size))⟩
                    case measure => have := hkn.out; simp [intOf]; omega
                · have e : k = i := by omega
                  subst e
                  clear HA WX CX
                  go_wp2_with fail
                  go_roundw
                  case rel => exact ⟨j + 1, by go_num, hnext2.out, D⟩
                  case measure => have := hnext2.out; simp [intOf]; omega
            · have e : j = li.length := by omega
              subst e
              clear HA WO CO0 hrow hx64 hxin
              go_wp2_with fail
              go_roundw
              case rel => exact ⟨a + 1, by go_num, hnext.out, D⟩
              case measure => have := hnext.out; simp [intOf]; omega
        · have e : a = LL.length := by omega
          subst e
          have BE := B4.out.trans ((B6.out.trans (D.out.mono B6.out.size)).mono B4.out.size)
          clear HA WO CO0 hrd SML HIN
          go_wp2_with fail
          go_ret
          exact ⟨rfl, BE⟩
end Go.Proofs.YtdpbapoahfggeaaDoor
