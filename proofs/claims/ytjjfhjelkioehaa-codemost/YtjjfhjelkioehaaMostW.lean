/- The walk of CodeMost, with what the document's Good answers as a hypothesis. -/
import Derived.Test.YtjjfhjelkioehaaMostA
import Derived.Test.YtjjfhjelkioehaaIsW
namespace Go.Proofs.Ytjjfhjelkioehaa
open Go.ChangeShapes Go.WideShapes Go.ChangeAt Go.RowKit
set_option linter.unusedVariables false
set_option linter.unusedSimpArgs false

theorem s15 {W : World} {b0 b1 b2 : Nat} {v0 v1 v2 v3 v4 u0 u1 u2 u3 u4 t0 t1 t2 t3 t4 : Value} (h : BoxAt W b0 [v0, v1, v2, v3, v4]) (k : BoxAt W b1 [u0, u1, u2, u3, u4]) (m : BoxAt W b2 [t0, t1, t2, t3, t4]) :
    W.cell? ⟨b0, 0, none⟩ = some v0 ∧ W.cell? ⟨b0, 1, none⟩ = some v1 ∧ W.cell? ⟨b0, 2, none⟩ = some v2 ∧ W.cell? ⟨b0, 3, none⟩ = some v3 ∧ W.cell? ⟨b0, 4, none⟩ = some v4 ∧
    W.cell? ⟨b1, 0, none⟩ = some u0 ∧ W.cell? ⟨b1, 1, none⟩ = some u1 ∧ W.cell? ⟨b1, 2, none⟩ = some u2 ∧ W.cell? ⟨b1, 3, none⟩ = some u3 ∧ W.cell? ⟨b1, 4, none⟩ = some u4 ∧
    W.cell? ⟨b2, 0, none⟩ = some t0 ∧ W.cell? ⟨b2, 1, none⟩ = some t1 ∧ W.cell? ⟨b2, 2, none⟩ = some t2 ∧ W.cell? ⟨b2, 3, none⟩ = some t3 ∧ W.cell? ⟨b2, 4, none⟩ = some t4 :=
  ⟨h.2 0 _ rfl, h.2 1 _ rfl, h.2 2 _ rfl, h.2 3 _ rfl, h.2 4 _ rfl, k.2 0 _ rfl, k.2 1 _ rfl, k.2 2 _ rfl, k.2 3 _ rfl, k.2 4 _ rfl, m.2 0 _ rfl, m.2 1 _ rfl, m.2 2 _ rfl, m.2 3 _ rfl, m.2 4 _ rfl⟩

theorem small_most {c : Cd} (s : SmallP c) (k : Nat) (most : Int) (v : Value) : SmallP (withMost c k most v) := by
  refine ⟨s.l1, s.l2, by unfold withMost; simpa using s.l3, s.l4, s.l5, s.flds, fun i t h => ?_, fun i t h => ?_, fun i t h j x hx => ?_⟩
  · obtain ⟨t2, h1, h2, h3, _⟩ := most_get h
    rw [h2]; exact s.slots i t2 h1
  · obtain ⟨t2, h1, h2, h3, _⟩ := most_get h
    rw [h3]; exact s.code i t2 h1
  · obtain ⟨t2, h1, h2, h3, _⟩ := most_get h
    rw [h3] at hx; exact s.items i t2 h1 j x hx
theorem small_none {c : Cd} (s : SmallP c) (v : Value) : SmallP (noSecs c v) := ⟨s.l1, s.l2, s.l3, s.l4, by unfold noSecs; simp, s.flds, s.slots, s.code, s.items⟩

theorem own_ge {n m : Nat} (h : m < n) : ∀ q, (Value.slice (some ⟨n + 1, 0, none⟩) 0 0).ownBlock = some q → m ≤ q := by
  intro q hq
  simp only [Value.ownBlock, Option.some.injEq] at hq
  omega
theorem own_ne {n : Nat} : (Value.slice (some ⟨n + 1, 0, none⟩) 0 0).ownBlock ≠ some n := by
  intro hq
  simp only [Value.ownBlock, Option.some.injEq] at hq
  omega
theorem own_ne2 {n m : Nat} (h : m < n) : (Value.slice (some ⟨n + 1, 0, none⟩) 0 0).ownBlock ≠ some m := by
  intro hq
  simp only [Value.ownBlock, Option.some.injEq] at hq
  omega
theorem own_pos {w : World} {base : Nat} {e : TypeId} {size n m : Nat} {v : Value} {xs : List Value} (h : w.ownsRow base e size v n xs) (hm : n = m) (hp : 0 < m) :
    ∃ g cap cur, v = .slice (some ⟨g, 0, none⟩) m cap ∧ base ≤ g ∧ m ≤ cap ∧ cap ≤ maxLen ∧ w.heap[g]? = some (.cells cur e (0, 0)) ∧ cur.toList.take (m * size) = xs := by
  subst hm
  rcases h.2 with ⟨rfl, h0⟩ | ⟨g, cap, cur, rfl, hbg, hg, hnc, hcm, hcs, htake⟩
  · omega
  · exact ⟨g, cap, cur, rfl, hbg, hnc, hcm, hg, htake⟩
theorem grown_var {w w' : World} {row : Option Nat} {b : Nat} {cs : List Value} {t : TypeId} (h : w.grownBy w' row) (k : VarAt w b cs t) (hb : row ≠ some b) : VarAt w' b cs t := (h.block b k.lt hb.symm).trans k
theorem grown_box {w w' : World} {row : Option Nat} {b : Nat} {cs : List Value} (h : w.grownBy w' row) (k : BoxAt w b cs) (hb : row ≠ some b) : BoxAt w' b cs :=
  ⟨Nat.lt_of_lt_of_le k.1 h.size, fun j u hj => (World.cell?_of_block (a := ⟨b, j, none⟩) (h.block b k.1 hb.symm)).trans (k.2 j u hj)⟩
theorem row_long {cur : Array Value} {l : List Bd} {n k : Nat} (h : cur.toList.take (n * 3) = l.flatMap Bd.cells) (hk : k < n) (hl : l.length = n := by assumption) : k * 3 + 2 < cur.toList.length := by
  have := congrArg List.length h
  rw [flat_len Bd.cells 3 (fun _ => rfl) l, List.length_take, hl] at this
  omega

set_option maxRecDepth 100000 in
set_option maxHeartbeats 4000000 in
theorem walkMost (HR : RGoodSays) (v0 : Value) (c : Cd) (th most : Int) (w : World) (w0 : IsCd w v0 c) (wf1 : (Lit.int .i64 th).wf = true) (wf2 : (Lit.int .i64 most).wf = true) :
    Calls Try.prog 6 #[v0, .int .i64 th, .int .i64 most] w fun e w' => e = .returned (.bool true) ∧ Below w.heap.size w w' := by
  obtain ⟨rfl, hc⟩ := w0
  have hm : I64 most := bounds_i64 wf2
  obtain ⟨a0, p0, a1, p1, a2, p2, a3, p3, a4, p4, e0, e1, e2, e3, e4⟩ := cd_open hc
  have DG := fun W (h : Below w.heap.size w W) => great_any c W (Cd.kept hc h)
  have DR := fun (s : SmallP c) W (h : Below w.heap.size w W) => HR c W (Cd.kept hc h) s
  have hth := hc.2.2.1
  rw [e2] at hth
  have HC := hid hc
  rw [e0, e1, e2, e3, e4] at DG DR ⊢
  have E0 := hid e0
  have E1 := hid e1
  have E2 := hid e2
  have E3 := hid e3
  have E4 := hid e4
  clear e0 e1 e2 e3 e4 HR wf1 wf2
  clear hc
  replace hth := hid hth
  generalize hT : c.threads.length = nT at *
  generalize h4 : c.secs.length = n4 at *
  have B := (Below.refl w.heap.size w).alloc (Nat.le_refl _) (.cells #[.slice a0 c.recs.length p0, .slice a1 c.globs.length p1, .slice a2 nT p2, .slice a3 c.sites.length p3, .slice a4 n4 p4] 28)
  have KC := BoxAt.new w #[.slice a0 c.recs.length p0, .slice a1 c.globs.length p1, .slice a2 nT p2, .slice a3 c.sites.length p3, .slice a4 n4 p4] 28
  replace hT := hid hT
  replace h4 := hid h4
  replace DG := hid DG
  replace DR := hid DR
  replace B := hid B
  replace KC := hid KC
  replace hm := hid hm
  go_enter Try.func6, Try.ntmps6
  go_wp2_with fail
  refine Calls.mono (alive_any _) ?_
  rintro e w1 ⟨rfl, hb⟩
  replace B := hid (B.out.trans (hb.mono B.out.size))
  replace KC := hid (KC.out.kept hb)
  clear hb
  obtain ⟨c0, c1, c2, c3, c4⟩ := five KC.out
  go_wp2_with fail
  refine Calls.mono (DG.out _ B.out) ?_
  rintro e w2 ⟨q, rfl, hq, hb⟩
  replace B := hid (B.out.trans (hb.mono B.out.size))
  replace KC := hid (KC.out.kept hb)
  replace hq := hid hq
  clear c0 c1 c2 c3 c4 hb DG
  cases q
  rotate_left
  · clear DR KC hq hth HC
    go_wp2
    go_ret
    exact ⟨rfl, B.out⟩
  have SM := hid (hq.out rfl)
  clear hq
  obtain ⟨c0, c1, c2, c3, c4⟩ := five KC.out
  go_wp2_with fail
  refine Calls.mono (DR.out SM.out _ B.out) ?_
  rintro e w3 ⟨q, rfl, hq, hb⟩
  replace B := hid (B.out.trans (hb.mono B.out.size))
  replace KC := hid (KC.out.kept hb)
  replace hq := hid hq
  clear c0 c1 c2 c3 c4 hb DR
  cases q
  · clear KC hq hth HC
    go_wp2
    go_ret
    exact ⟨rfl, B.out⟩
  have GP := hid (hq.out.1 rfl)
  clear hq
  obtain ⟨c0, c1, c2, c3, c4⟩ := five KC.out
  by_cases t0 : th < 0
  · clear hth HC
    go_wp2
    go_ret
    exact ⟨rfl, B.out⟩
  have t0' : 0 ≤ th := by omega
  by_cases t1 : (nT : Int) ≤ th
  · clear hth HC t0
    go_wp2
    go_ret
    exact ⟨rfl, B.out⟩
  have t1' : th < (nT : Int) := by omega
  clear t0 t1
  obtain ⟨k, rfl⟩ := Int.eq_ofNat_of_zero_le t0'
  have hkn : k < nT := by omega
  obtain ⟨t, ht⟩ : ∃ t, c.threads[k]? = some t := ⟨c.threads[k]'(by rw [hT.out]; exact hkn), by simp⟩
  replace ht := hid ht
  have hnT : nT ≤ 1000 := by have := SM.out.l3; rw [hT.out] at this; exact this
  have hlt3 := KC.out.1
  have B5 := hid ((B.out.alloc B.out.size (.cells #[.slice a0 c.recs.length p0, .slice a1 c.globs.length p1, .slice a2 nT p2, .slice a3 c.sites.length p3, .slice a4 n4 p4] 28)).alloc (B.out.alloc B.out.size (.cells #[.slice a0 c.recs.length p0, .slice a1 c.globs.length p1, .slice a2 nT p2, .slice a3 c.sites.length p3, .slice a4 n4 p4] 28)).size (.cells #[] 39))
  have KD := hid ((VarAt.new w3 [.slice a0 c.recs.length p0, .slice a1 c.globs.length p1, .slice a2 nT p2, .slice a3 c.sites.length p3, .slice a4 n4 p4] 28).past (.cells #[] 39))
  have KC5 := hid ((KC.out.past (.cells #[.slice a0 c.recs.length p0, .slice a1 c.globs.length p1, .slice a2 nT p2, .slice a3 c.sites.length p3, .slice a4 n4 p4] 28)).past (.cells #[] 39))
  have OW := own_empty (w3.alloc (.cells #[.slice a0 c.recs.length p0, .slice a1 c.globs.length p1, .slice a2 nT p2, .slice a3 c.sites.length p3, .slice a4 n4 p4] 28)) 39 3
  simp only [World.size_alloc] at OW
  replace OW := hid OW
  have HU := hid (Bds.kept hth.out B5.out)
  have H1 := hid (bd_ones HU.out)
  have hbase := hid (show w3.heap.size + 1 ≤ ((w3.alloc (.cells #[.slice a0 c.recs.length p0, .slice a1 c.globs.length p1, .slice a2 nT p2, .slice a3 c.sites.length p3, .slice a4 n4 p4] 28)).alloc (.cells #[] 39)).heap.size by simp)
  have h63 := hid (show 0 + c.threads.length ≤ 2000000 by rw [hT.out]; omega)
  have kk : (k : Int) < (nT : Int) := by omega
  have kk0 : ¬ nT ≤ k := by omega
  go_wp2_with (first
    | (refine wl_append_row rfl _ _ 24 rfl (w3.heap.size + 1) 39 (.agg #[.slice none 0 0, .slice none 0 0, .int .i64 0]) 3 56 Try.underlying24 (by kernel_rfl) rfl (by omega) (.slice (some ⟨w3.heap.size + 1, 0, none⟩) 0 0) rfl 0 [] OW.out _ rfl (cells := Bd.cells) (ok := Bd.okW) (fun _ => rfl) c.threads HU.out H1.out h63.out (by omega) hbase.out ?_; intro v' w6 ho hg hbk; obtain ⟨g, cap, cur, hv', hgb, hcap, hcm, hgc, htk⟩ := own_pos ho (m := nT) (by rw [hT.out]; omega) (by omega); subst hv'; have B6 := hid (B5.out.grown hg B5.out.size (own_ge hlt3)); have KD6 := hid (grown_var hg KD.out own_ne); have KC6 := hid (grown_box hg KC5.out (own_ne2 hlt3)); replace hgc := hid hgc; replace htk := hid htk; replace hcap := hid hcap; replace hcm := hid hcm; clear ho hg hbk OW HU H1 hbase h63 KD KC5 B5)
    | (refine wl_store_cell 24 _ _ rfl rfl w3.heap.size 2 rfl (.slice (some ⟨g, 0, none⟩) nT cap) rfl (by kernel_rfl) rfl _ 28 KD6.out (by simp) ?_; intro w7 KD7 u7; have VG7 := hid (u7.var (show VarAt w6 g cur.toList 39 from hgc.out) (by omega)); have KC7 := hid (u7.box KC6.out (by omega)); have B7 := hid (u7.below B6.out (by omega)); have e2 := KD7.box.2 2 _ rfl; replace KD7 := hid KD7; clear u7 KD6 KC6 B6)
    | (refine wl_store_cell 3 _ _ rfl rfl g (k * 3 + 2) rfl (.int .i64 most) rfl (by kernel_rfl) rfl _ 39 VG7.out (row_long htk.out hkn hT.out) ?_; intro w8 VG8 u8; have KD8 := hid (u8.box KD7.out.box (by omega)); have KC8 := hid (u8.box KC7.out (by omega)); have B8 := hid (u8.below B7.out (by omega)); obtain ⟨z0, z1, z2, z3, z4⟩ := five KC8.out; replace VG8 := hid VG8; clear u8 KD7 KC7 B7 VG7 e2))
  have KD := hid (KD8.out.past (.cells #[.slice a0 c.recs.length p0, .slice a1 c.globs.length p1, .slice a2 nT p2, .slice a3 c.sites.length p3, .slice none 0 0] 28))
  have KE := hid (BoxAt.new w8 #[.slice a0 c.recs.length p0, .slice a1 c.globs.length p1, .slice a2 nT p2, .slice a3 c.sites.length p3, .slice none 0 0] 28)
  have KC := hid (KC8.out.past (.cells #[.slice a0 c.recs.length p0, .slice a1 c.globs.length p1, .slice a2 nT p2, .slice a3 c.sites.length p3, .slice none 0 0] 28))
  have VG := hid (VG8.out.past (.cells #[.slice a0 c.recs.length p0, .slice a1 c.globs.length p1, .slice a2 nT p2, .slice a3 c.sites.length p3, .slice none 0 0] 28))
  have B := hid (B8.out.alloc B8.out.size (.cells #[.slice a0 c.recs.length p0, .slice a1 c.globs.length p1, .slice a2 nT p2, .slice a3 c.sites.length p3, .slice none 0 0] 28))
  have K0 := hid (Below.refl (w8.alloc (.cells #[.slice a0 c.recs.length p0, .slice a1 c.globs.length p1, .slice a2 nT p2, .slice a3 c.sites.length p3, .slice none 0 0] 28)).heap.size (w8.alloc (.cells #[.slice a0 c.recs.length p0, .slice a1 c.globs.length p1, .slice a2 nT p2, .slice a3 c.sites.length p3, .slice none 0 0] 28)))
  have D1 := fun W (h : Below (w8.alloc (.cells #[.slice a0 c.recs.length p0, .slice a1 c.globs.length p1, .slice a2 nT p2, .slice a3 c.sites.length p3, .slice none 0 0] 28)).heap.size (w8.alloc (.cells #[.slice a0 c.recs.length p0, .slice a1 c.globs.length p1, .slice a2 nT p2, .slice a3 c.sites.length p3, .slice none 0 0] 28)) W) => by
    have bw : Below w.heap.size w W := B.out.trans (h.mono B.out.size)
    have okc := Cd.kept HC.out bw
    have rm : Bds W (.slice (some ⟨g, 0, none⟩) nT cap) (withMost c k most (.slice (some ⟨g, 0, none⟩) nT cap)).threads := by
      have := row_most (w := W) (g := g) (cap := cap) (cur := cur.toList) ht.out hm.out (by rw [hT.out]; exact hcap.out) hcm.out (VG.out.kept h) (by rw [hT.out]; exact htk.out) (fun i t hi => by
        obtain ⟨a, cp, e, hr⟩ := okc.2.2.1.at
        obtain ⟨y, b', o', hy, _, _, _, ok⟩ := hr i (List.getElem?_eq_some_iff.1 hi).1
        rw [hi] at hy; cases hy; exact ok) (.slice (some ⟨g, 0, none⟩) nT cap)
      rwa [hT.out] at this
    exact goodC_any (withMost c k most (.slice (some ⟨g, 0, none⟩) nT cap)) W ⟨okc.1, okc.2.1, rm, okc.2.2.2.1, okc.2.2.2.2⟩ (small_most SM.out _ _ _)
  have D2 := fun W (h : Below (w8.alloc (.cells #[.slice a0 c.recs.length p0, .slice a1 c.globs.length p1, .slice a2 nT p2, .slice a3 c.sites.length p3, .slice none 0 0] 28)).heap.size (w8.alloc (.cells #[.slice a0 c.recs.length p0, .slice a1 c.globs.length p1, .slice a2 nT p2, .slice a3 c.sites.length p3, .slice none 0 0] 28)) W) => by
    have bw : Below w.heap.size w W := B.out.trans (h.mono B.out.size)
    have okc := Cd.kept HC.out bw
    exact goodC_any (noSecs c (.slice none 0 0)) W ⟨okc.1, okc.2.1, okc.2.2.1, okc.2.2.2.1, RowOf.nil _ _ _ _⟩ (small_none SM.out _)
  have Q1' := good_withMost GP.out ht.out most (.slice (some ⟨g, 0, none⟩) nT cap)
  have Q2' := good_nosecs GP.out (.slice none 0 0)
  rw [h4.out] at Q2'
  generalize GoodP (withMost c k most (.slice (some ⟨g, 0, none⟩) nT cap)) = P1 at *
  generalize GoodP (noSecs c (.slice none 0 0)) = P2 at *
  simp only [withMost, noSecs] at D1 D2
  rw [E0.out, E1.out, E3.out, E4.out] at D1
  rw [E0.out, E1.out, E2.out, E3.out] at D2
  replace D1 := hid D1
  replace D2 := hid D2
  clear KD8 KC8 VG8 VG B8 z0 z1 z2 z3 z4 HC E0 E1 E2 E3 E4 GP SM hgc htk hcap hcm ht hth
  generalize w8.heap.size = eb at *
  generalize w3.heap.size = db at *
  have hcase : most < 0 ∨ (0 ≤ most ∧ most ≤ 4096) ∨ 4096 < most := by omega
  by_cases hz4 : n4 = 0
  · have z4 : ((n4 : Int) == 0) = true := by simp only [beq_iff_eq]; omega
    have Q2 : Hid (∀ q : Bool, (q = true ↔ P2) → q = true) := hid (fun q hq => by cases q <;> simp_all)
    clear Q2' hz4
    rcases hcase with h | ⟨h, h'⟩ | h
    · have md : decide (0 ≤ most) = false := decide_eq_false (by omega)
      have Q1 : Hid (∀ q : Bool, (q = true ↔ P1) → q = false) := hid (fun q hq => by rw [Q1'] at hq; cases q <;> simp at hq ⊢ <;> omega)
      clear Q1'
      refine wp_region_held_drew (S := fun (w' : World) => w'.cell? ⟨db, 0, none⟩ = some (.slice a0 c.recs.length p0) ∧ w'.cell? ⟨db, 1, none⟩ = some (.slice a1 c.globs.length p1) ∧ w'.cell? ⟨db, 2, none⟩ = some (.slice (some ⟨g, 0, none⟩) nT cap) ∧ w'.cell? ⟨db, 3, none⟩ = some (.slice a3 c.sites.length p3) ∧ w'.cell? ⟨db, 4, none⟩ = some (.slice a4 n4 p4) ∧ w'.cell? ⟨eb, 0, none⟩ = some (.slice a0 c.recs.length p0) ∧ w'.cell? ⟨eb, 1, none⟩ = some (.slice a1 c.globs.length p1) ∧ w'.cell? ⟨eb, 2, none⟩ = some (.slice a2 nT p2) ∧ w'.cell? ⟨eb, 3, none⟩ = some (.slice a3 c.sites.length p3) ∧ w'.cell? ⟨eb, 4, none⟩ = some (.slice none 0 0) ∧ w'.cell? ⟨w.heap.size, 0, none⟩ = some (.slice a0 c.recs.length p0) ∧ w'.cell? ⟨w.heap.size, 1, none⟩ = some (.slice a1 c.globs.length p1) ∧ w'.cell? ⟨w.heap.size, 2, none⟩ = some (.slice a2 nT p2) ∧ w'.cell? ⟨w.heap.size, 3, none⟩ = some (.slice a3 c.sites.length p3) ∧ w'.cell? ⟨w.heap.size, 4, none⟩ = some (.slice a4 n4 p4)) (by kernel_rfl) (s15 KD.out.drew KE.out.drew KC.out.drew) (fun hHeld => ?_)
      refine wpAnyH_take (i := 0) (oi := { dst := some 43, op := Go.Op.load 28 (Go.Operand.tmp 7), type := 28, pos := "law.go:81", after := #[], guard := none }) (v := ?_) rfl (by kernel_rfl) (by kernel_rfl) (by kernel_rfl) (fun _ _ _ h => h) (Or.inl ⟨by rfl, ?_⟩) hHeld ?_
      rotate_left
      · intro w0 hSw; (try dsimp only at hSw); go_simp; (try with_reducible rfl)
      try simp only [Act.put, List.setIfInBounds_toArray, List.set_cons_zero, List.set_cons_succ]
      refine wpAnyH_take (i := 2) (oi := { dst := some 45, op := Go.Op.move (Go.Operand.tmp 2), type := 3, pos := "law.go:81", after := #[], guard := none }) (v := ?_) rfl (by kernel_rfl) (by kernel_rfl) (by kernel_rfl) (fun _ _ _ h => h) (Or.inl ⟨by rfl, ?_⟩) hHeld ?_
      rotate_left
      · intro w0 hSw; (try dsimp only at hSw); go_simp; (try with_reducible rfl)
      try simp only [Act.put, List.setIfInBounds_toArray, List.set_cons_zero, List.set_cons_succ]
      refine wpAnyH_take (i := 3) (oi := { dst := some 46, op := Go.Op.binOp Go.BinOp.geq 3 (Go.Operand.tmp 45) (Go.Operand.const (Go.Value.int Go.IntKind.i64 0)) 3, type := 4, pos := "law.go:81", after := #[{ on := 2, ground := Go.Ground.data }], guard := none }) (v := ?_) rfl (by kernel_rfl) (by kernel_rfl) (by kernel_rfl) (fun _ _ _ h => h) (Or.inl ⟨by rfl, ?_⟩) hHeld ?_
      rotate_left
      · intro w0 hSw; (try dsimp only at hSw); go_simp; (try with_reducible rfl)
      try simp only [Act.put, List.setIfInBounds_toArray, List.set_cons_zero, List.set_cons_succ]
      try simp only [md]
      refine wpAnyH_ready (rs := [1]) (by kernel_rfl) (by simp) ?_
      refine AllReadyH.cons (o := { dst := some 44, op := Go.Op.call { callee := Go.Callee.value (Go.Operand.func 9), args := #[Go.Operand.tmp 43], argTypes := #[28] }, type := 4, pos := "law.go:81", after := #[{ on := 0, ground := Go.Ground.data }], guard := none }) rfl (fun K' hK' => ?_) AllReadyH.nil
      go_simp
      have B9 := hid B.out.drew
      have R9 := hid KD.out.drew
      have R8 := hid KE.out.drew
      have R7 := hid KC.out.drew
      replace B := B9
      replace KD := R9
      replace KE := R8
      replace KC := R7
      clear B9 R9 R8 R7
      go_at_call 9
      refine Calls.mono (D1.out _ (by exact K0.out.drew)) ?_
      rintro e y1 ⟨q, rfl, hq, hb⟩
      obtain rfl : q = false := Q1.out q hq
      clear hq
      have K1 := hid (K0.out.drew.trans (hb.mono K0.out.drew.size))
      replace B := hid (B.out.trans (hb.mono B.out.size))
      replace KD := hid (KD.out.kept hb)
      replace KE := hid (KE.out.kept hb)
      replace KC := hid (KC.out.kept hb)
      clear hb
      have hz := hid (s15 KD.out KE.out KC.out)
      refine hK'.out _ _ hz.out (fun hHeld => ?_)
      clear hK' K'
      try simp only [Act.put, List.setIfInBounds_toArray, List.set_cons_zero, List.set_cons_succ]
      try simp only [md]
      refine wpAnyH_take (i := 4) (oi := { dst := some 47, op := Go.Op.move (Go.Operand.tmp 46), type := 4, pos := "law.go:81", after := #[{ on := 3, ground := Go.Ground.data }, { on := 1, ground := Go.Ground.chain }], guard := none }) (v := ?_) rfl (by kernel_rfl) (by kernel_rfl) (by kernel_rfl) (fun _ _ _ h => h) (Or.inl ⟨by rfl, ?_⟩) hHeld ?_
      rotate_left
      · intro w0 hSw; (try dsimp only at hSw); go_simp; (try with_reducible rfl)
      try simp only [Act.put, List.setIfInBounds_toArray, List.set_cons_zero, List.set_cons_succ]
      try simp only [md]
      refine wpAnyH_take (i := 5) (oi := { dst := some 48, op := Go.Op.move (Go.Operand.tmp 2), type := 3, pos := "law.go:81", after := #[{ on := 4, ground := Go.Ground.guard }], guard := some (4, true) }) (v := undef) rfl (by kernel_rfl) (by kernel_rfl) (by kernel_rfl) (fun _ _ _ h => h) (Or.inr ⟨by rfl, rfl⟩) hHeld ?_
      try simp only [Act.put, List.setIfInBounds_toArray, List.set_cons_zero, List.set_cons_succ]
      refine wpAnyH_take (i := 6) (oi := { dst := some 49, op := Go.Op.binOp Go.BinOp.leq 3 (Go.Operand.tmp 48) (Go.Operand.const (Go.Value.int Go.IntKind.i64 4096)) 3, type := 4, pos := "law.go:81", after := #[{ on := 5, ground := Go.Ground.data }, { on := 4, ground := Go.Ground.guard }], guard := some (4, true) }) (v := undef) rfl (by kernel_rfl) (by kernel_rfl) (by kernel_rfl) (fun _ _ _ h => h) (Or.inr ⟨by rfl, rfl⟩) hHeld ?_
      try simp only [Act.put, List.setIfInBounds_toArray, List.set_cons_zero, List.set_cons_succ]
      try simp only [md]
      refine wpAnyH_take (i := 7) (oi := { dst := some 50, op := Go.Op.pick (Go.Operand.tmp 47) (Go.Operand.tmp 49) (Go.Operand.const (Go.Value.bool false)), type := 4, pos := "law.go:81", after := #[{ on := 4, ground := Go.Ground.data }, { on := 6, ground := Go.Ground.data }], guard := none }) (v := ?_) rfl (by kernel_rfl) (by kernel_rfl) (by kernel_rfl) (fun _ _ _ h => h) (Or.inl ⟨by rfl, ?_⟩) hHeld ?_
      rotate_left
      · intro w0 hSw; (try dsimp only at hSw); go_simp; (try with_reducible rfl)
      try simp only [Act.put, List.setIfInBounds_toArray, List.set_cons_zero, List.set_cons_succ]
      try simp only [md]
      refine wpAnyH_take (i := 8) (oi := { dst := some 51, op := Go.Op.binOp Go.BinOp.eql 4 (Go.Operand.tmp 44) (Go.Operand.tmp 50) 4, type := 4, pos := "law.go:81", after := #[{ on := 1, ground := Go.Ground.data }, { on := 7, ground := Go.Ground.data }], guard := none }) (v := ?_) rfl (by kernel_rfl) (by kernel_rfl) (by kernel_rfl) (fun _ _ _ h => h) (Or.inl ⟨by rfl, ?_⟩) hHeld ?_
      rotate_left
      · intro w0 hSw; (try dsimp only at hSw); go_simp; (try with_reducible rfl)
      try simp only [Act.put, List.setIfInBounds_toArray, List.set_cons_zero, List.set_cons_succ]
      try simp only [md]
      refine wpAnyH_take (i := 9) (oi := { dst := some 52, op := Go.Op.move (Go.Operand.tmp 51), type := 4, pos := "law.go:81", after := #[{ on := 8, ground := Go.Ground.data }, { on := 4, ground := Go.Ground.chain }], guard := none }) (v := ?_) rfl (by kernel_rfl) (by kernel_rfl) (by kernel_rfl) (fun _ _ _ h => h) (Or.inl ⟨by rfl, ?_⟩) hHeld ?_
      rotate_left
      · intro w0 hSw; (try dsimp only at hSw); go_simp; (try with_reducible rfl)
      try simp only [Act.put, List.setIfInBounds_toArray, List.set_cons_zero, List.set_cons_succ]
      refine wpAnyH_take (i := 10) (oi := { dst := some 53, op := Go.Op.load 28 (Go.Operand.tmp 8), type := 28, pos := "law.go:81", after := #[{ on := 9, ground := Go.Ground.guard }], guard := some (9, true) }) (v := ?_) rfl (by kernel_rfl) (by kernel_rfl) (by kernel_rfl) (fun _ _ _ h => h) (Or.inl ⟨by rfl, ?_⟩) hHeld ?_
      rotate_left
      · intro w0 hSw; (try dsimp only at hSw); go_simp; (try with_reducible rfl)
      try simp only [Act.put, List.setIfInBounds_toArray, List.set_cons_zero, List.set_cons_succ]
      refine wpAnyH_take (i := 12) (oi := { dst := some 55, op := Go.Op.fieldAddr 28 (Go.Operand.tmp 3) 4, type := 0, pos := "law.go:81", after := #[{ on := 9, ground := Go.Ground.guard }], guard := some (9, true) }) (v := ?_) rfl (by kernel_rfl) (by kernel_rfl) (by kernel_rfl) (fun _ _ _ h => h) (Or.inl ⟨by rfl, ?_⟩) hHeld ?_
      rotate_left
      · intro w0 hSw; (try dsimp only at hSw); go_simp; (try with_reducible rfl)
      try simp only [Act.put, List.setIfInBounds_toArray, List.set_cons_zero, List.set_cons_succ]
      refine wpAnyH_take (i := 13) (oi := { dst := some 56, op := Go.Op.load 26 (Go.Operand.tmp 55), type := 26, pos := "law.go:81", after := #[{ on := 12, ground := Go.Ground.data }, { on := 9, ground := Go.Ground.guard }], guard := some (9, true) }) (v := ?_) rfl (by kernel_rfl) (by kernel_rfl) (by kernel_rfl) (fun _ _ _ h => h) (Or.inl ⟨by rfl, ?_⟩) hHeld ?_
      rotate_left
      · intro w0 hSw; (try dsimp only at hSw); go_simp; (try with_reducible rfl)
      try simp only [Act.put, List.setIfInBounds_toArray, List.set_cons_zero, List.set_cons_succ]
      refine wpAnyH_take (i := 14) (oi := { dst := some 57, op := Go.Op.call { callee := Go.Callee.builtin Go.Builtin.len, args := #[Go.Operand.tmp 56], argTypes := #[26] }, type := 3, pos := "law.go:81", after := #[{ on := 13, ground := Go.Ground.data }, { on := 9, ground := Go.Ground.guard }], guard := some (9, true) }) (v := ?_) rfl (by kernel_rfl) (by kernel_rfl) (by kernel_rfl) (fun _ _ _ h => h) (Or.inl ⟨by rfl, ?_⟩) hHeld ?_
      rotate_left
      · intro w0 hSw; (try dsimp only at hSw); go_simp; (try with_reducible rfl)
      try simp only [Act.put, List.setIfInBounds_toArray, List.set_cons_zero, List.set_cons_succ]
      refine wpAnyH_take (i := 15) (oi := { dst := some 58, op := Go.Op.binOp Go.BinOp.eql 3 (Go.Operand.tmp 57) (Go.Operand.const (Go.Value.int Go.IntKind.i64 0)) 3, type := 4, pos := "law.go:81", after := #[{ on := 14, ground := Go.Ground.data }, { on := 9, ground := Go.Ground.guard }], guard := some (9, true) }) (v := ?_) rfl (by kernel_rfl) (by kernel_rfl) (by kernel_rfl) (fun _ _ _ h => h) (Or.inl ⟨by rfl, ?_⟩) hHeld ?_
      rotate_left
      · intro w0 hSw; (try dsimp only at hSw); go_simp; (try with_reducible rfl)
      try simp only [Act.put, List.setIfInBounds_toArray, List.set_cons_zero, List.set_cons_succ]
      try simp only [md]
      refine wpAnyH_ready (rs := [11]) (by kernel_rfl) (by simp) ?_
      refine AllReadyH.cons (o := { dst := some 54, op := Go.Op.call { callee := Go.Callee.value (Go.Operand.func 9), args := #[Go.Operand.tmp 53], argTypes := #[28] }, type := 4, pos := "law.go:81", after := #[{ on := 10, ground := Go.Ground.data }, { on := 9, ground := Go.Ground.chain }, { on := 9, ground := Go.Ground.guard }], guard := some (9, true) }) rfl (fun K' hK' => ?_) AllReadyH.nil
      go_simp
      go_at_call 9
      refine Calls.mono (D2.out _ K1.out) ?_
      rintro e y2 ⟨q, rfl, hq, hb⟩
      obtain rfl : q = true := Q2.out q hq
      clear hq
      replace B := hid (B.out.trans (hb.mono B.out.size))
      replace KD := hid (KD.out.kept hb)
      replace KE := hid (KE.out.kept hb)
      replace KC := hid (KC.out.kept hb)
      clear hb
      have hz := hid (s15 KD.out KE.out KC.out)
      refine hK'.out _ _ hz.out (fun hHeld => ?_)
      clear hK' K'
      try simp only [Act.put, List.setIfInBounds_toArray, List.set_cons_zero, List.set_cons_succ]
      try simp only [md]
      refine wpAnyH_take (i := 16) (oi := { dst := some 59, op := Go.Op.binOp Go.BinOp.eql 4 (Go.Operand.tmp 54) (Go.Operand.tmp 58) 4, type := 4, pos := "law.go:81", after := #[{ on := 11, ground := Go.Ground.data }, { on := 15, ground := Go.Ground.data }, { on := 9, ground := Go.Ground.guard }], guard := some (9, true) }) (v := ?_) rfl (by kernel_rfl) (by kernel_rfl) (by kernel_rfl) (fun _ _ _ h => h) (Or.inl ⟨by rfl, ?_⟩) hHeld ?_
      rotate_left
      · intro w0 hSw; (try dsimp only at hSw); go_simp; (try with_reducible rfl)
      try simp only [Act.put, List.setIfInBounds_toArray, List.set_cons_zero, List.set_cons_succ]
      try simp only [md]
      refine wpAnyH_take (i := 17) (oi := { dst := some 60, op := Go.Op.pick (Go.Operand.tmp 52) (Go.Operand.tmp 59) (Go.Operand.const (Go.Value.bool false)), type := 4, pos := "law.go:81", after := #[{ on := 9, ground := Go.Ground.data }, { on := 16, ground := Go.Ground.data }], guard := none }) (v := ?_) rfl (by kernel_rfl) (by kernel_rfl) (by kernel_rfl) (fun _ _ _ h => h) (Or.inl ⟨by rfl, ?_⟩) hHeld ?_
      rotate_left
      · intro w0 hSw; (try dsimp only at hSw); go_simp; (try with_reducible rfl)
      try simp only [Act.put, List.setIfInBounds_toArray, List.set_cons_zero, List.set_cons_succ]
      refine wpAnyH_take (i := 18) (oi := { dst := some 6, op := Go.Op.assign (Go.Operand.tmp 60), type := 4, pos := "law.go:81", after := #[{ on := 17, ground := Go.Ground.data }, { on := 11, ground := Go.Ground.chain }, { on := 0, ground := Go.Ground.phase }, { on := 1, ground := Go.Ground.phase }, { on := 2, ground := Go.Ground.phase }, { on := 3, ground := Go.Ground.phase }, { on := 4, ground := Go.Ground.phase }, { on := 5, ground := Go.Ground.phase }, { on := 6, ground := Go.Ground.phase }, { on := 7, ground := Go.Ground.phase }, { on := 8, ground := Go.Ground.phase }, { on := 9, ground := Go.Ground.phase }, { on := 10, ground := Go.Ground.phase }, { on := 11, ground := Go.Ground.phase }, { on := 12, ground := Go.Ground.phase }, { on := 13, ground := Go.Ground.phase }, { on := 14, ground := Go.Ground.phase }, { on := 15, ground := Go.Ground.phase }, { on := 16, ground := Go.Ground.phase }, { on := 17, ground := Go.Ground.phase }], guard := none }) (v := ?_) rfl (by kernel_rfl) (by kernel_rfl) (by kernel_rfl) (fun _ _ _ h => h) (Or.inl ⟨by rfl, ?_⟩) hHeld ?_
      rotate_left
      · intro w0 hSw; (try dsimp only at hSw); go_simp; (try with_reducible rfl)
      try simp only [Act.put, List.setIfInBounds_toArray, List.set_cons_zero, List.set_cons_succ]
      refine wpAnyH_done (by kernel_rfl) ?_ _
      clear hHeld
      go_wp2
      go_ret
      first | exact ⟨rfl, B.out⟩ | exact ⟨retB (by simp), B.out⟩
    · have md : decide (0 ≤ most) = true := decide_eq_true h
      have me : decide (most ≤ 4096) = true := decide_eq_true h'
      have Q1 : Hid (∀ q : Bool, (q = true ↔ P1) → q = true) := hid (fun q hq => by rw [Q1'] at hq; cases q <;> simp at hq ⊢ <;> omega)
      clear Q1'
      refine wp_region_held_drew (S := fun (w' : World) => w'.cell? ⟨db, 0, none⟩ = some (.slice a0 c.recs.length p0) ∧ w'.cell? ⟨db, 1, none⟩ = some (.slice a1 c.globs.length p1) ∧ w'.cell? ⟨db, 2, none⟩ = some (.slice (some ⟨g, 0, none⟩) nT cap) ∧ w'.cell? ⟨db, 3, none⟩ = some (.slice a3 c.sites.length p3) ∧ w'.cell? ⟨db, 4, none⟩ = some (.slice a4 n4 p4) ∧ w'.cell? ⟨eb, 0, none⟩ = some (.slice a0 c.recs.length p0) ∧ w'.cell? ⟨eb, 1, none⟩ = some (.slice a1 c.globs.length p1) ∧ w'.cell? ⟨eb, 2, none⟩ = some (.slice a2 nT p2) ∧ w'.cell? ⟨eb, 3, none⟩ = some (.slice a3 c.sites.length p3) ∧ w'.cell? ⟨eb, 4, none⟩ = some (.slice none 0 0) ∧ w'.cell? ⟨w.heap.size, 0, none⟩ = some (.slice a0 c.recs.length p0) ∧ w'.cell? ⟨w.heap.size, 1, none⟩ = some (.slice a1 c.globs.length p1) ∧ w'.cell? ⟨w.heap.size, 2, none⟩ = some (.slice a2 nT p2) ∧ w'.cell? ⟨w.heap.size, 3, none⟩ = some (.slice a3 c.sites.length p3) ∧ w'.cell? ⟨w.heap.size, 4, none⟩ = some (.slice a4 n4 p4)) (by kernel_rfl) (s15 KD.out.drew KE.out.drew KC.out.drew) (fun hHeld => ?_)
      refine wpAnyH_take (i := 0) (oi := { dst := some 43, op := Go.Op.load 28 (Go.Operand.tmp 7), type := 28, pos := "law.go:81", after := #[], guard := none }) (v := ?_) rfl (by kernel_rfl) (by kernel_rfl) (by kernel_rfl) (fun _ _ _ h => h) (Or.inl ⟨by rfl, ?_⟩) hHeld ?_
      rotate_left
      · intro w0 hSw; (try dsimp only at hSw); go_simp; (try with_reducible rfl)
      try simp only [Act.put, List.setIfInBounds_toArray, List.set_cons_zero, List.set_cons_succ]
      refine wpAnyH_take (i := 2) (oi := { dst := some 45, op := Go.Op.move (Go.Operand.tmp 2), type := 3, pos := "law.go:81", after := #[], guard := none }) (v := ?_) rfl (by kernel_rfl) (by kernel_rfl) (by kernel_rfl) (fun _ _ _ h => h) (Or.inl ⟨by rfl, ?_⟩) hHeld ?_
      rotate_left
      · intro w0 hSw; (try dsimp only at hSw); go_simp; (try with_reducible rfl)
      try simp only [Act.put, List.setIfInBounds_toArray, List.set_cons_zero, List.set_cons_succ]
      refine wpAnyH_take (i := 3) (oi := { dst := some 46, op := Go.Op.binOp Go.BinOp.geq 3 (Go.Operand.tmp 45) (Go.Operand.const (Go.Value.int Go.IntKind.i64 0)) 3, type := 4, pos := "law.go:81", after := #[{ on := 2, ground := Go.Ground.data }], guard := none }) (v := ?_) rfl (by kernel_rfl) (by kernel_rfl) (by kernel_rfl) (fun _ _ _ h => h) (Or.inl ⟨by rfl, ?_⟩) hHeld ?_
      rotate_left
      · intro w0 hSw; (try dsimp only at hSw); go_simp; (try with_reducible rfl)
      try simp only [Act.put, List.setIfInBounds_toArray, List.set_cons_zero, List.set_cons_succ]
      try simp only [md]
      try simp only [me]
      refine wpAnyH_ready (rs := [1]) (by kernel_rfl) (by simp) ?_
      refine AllReadyH.cons (o := { dst := some 44, op := Go.Op.call { callee := Go.Callee.value (Go.Operand.func 9), args := #[Go.Operand.tmp 43], argTypes := #[28] }, type := 4, pos := "law.go:81", after := #[{ on := 0, ground := Go.Ground.data }], guard := none }) rfl (fun K' hK' => ?_) AllReadyH.nil
      go_simp
      have B9 := hid B.out.drew
      have R9 := hid KD.out.drew
      have R8 := hid KE.out.drew
      have R7 := hid KC.out.drew
      replace B := B9
      replace KD := R9
      replace KE := R8
      replace KC := R7
      clear B9 R9 R8 R7
      go_at_call 9
      refine Calls.mono (D1.out _ (by exact K0.out.drew)) ?_
      rintro e y1 ⟨q, rfl, hq, hb⟩
      obtain rfl : q = true := Q1.out q hq
      clear hq
      have K1 := hid (K0.out.drew.trans (hb.mono K0.out.drew.size))
      replace B := hid (B.out.trans (hb.mono B.out.size))
      replace KD := hid (KD.out.kept hb)
      replace KE := hid (KE.out.kept hb)
      replace KC := hid (KC.out.kept hb)
      clear hb
      have hz := hid (s15 KD.out KE.out KC.out)
      refine hK'.out _ _ hz.out (fun hHeld => ?_)
      clear hK' K'
      try simp only [Act.put, List.setIfInBounds_toArray, List.set_cons_zero, List.set_cons_succ]
      try simp only [md]
      try simp only [me]
      refine wpAnyH_take (i := 4) (oi := { dst := some 47, op := Go.Op.move (Go.Operand.tmp 46), type := 4, pos := "law.go:81", after := #[{ on := 3, ground := Go.Ground.data }, { on := 1, ground := Go.Ground.chain }], guard := none }) (v := ?_) rfl (by kernel_rfl) (by kernel_rfl) (by kernel_rfl) (fun _ _ _ h => h) (Or.inl ⟨by rfl, ?_⟩) hHeld ?_
      rotate_left
      · intro w0 hSw; (try dsimp only at hSw); go_simp; (try with_reducible rfl)
      try simp only [Act.put, List.setIfInBounds_toArray, List.set_cons_zero, List.set_cons_succ]
      try simp only [md]
      try simp only [me]
      refine wpAnyH_take (i := 5) (oi := { dst := some 48, op := Go.Op.move (Go.Operand.tmp 2), type := 3, pos := "law.go:81", after := #[{ on := 4, ground := Go.Ground.guard }], guard := some (4, true) }) (v := ?_) rfl (by kernel_rfl) (by kernel_rfl) (by kernel_rfl) (fun _ _ _ h => h) (Or.inl ⟨by rfl, ?_⟩) hHeld ?_
      rotate_left
      · intro w0 hSw; (try dsimp only at hSw); go_simp; (try with_reducible rfl)
      try simp only [Act.put, List.setIfInBounds_toArray, List.set_cons_zero, List.set_cons_succ]
      refine wpAnyH_take (i := 6) (oi := { dst := some 49, op := Go.Op.binOp Go.BinOp.leq 3 (Go.Operand.tmp 48) (Go.Operand.const (Go.Value.int Go.IntKind.i64 4096)) 3, type := 4, pos := "law.go:81", after := #[{ on := 5, ground := Go.Ground.data }, { on := 4, ground := Go.Ground.guard }], guard := some (4, true) }) (v := ?_) rfl (by kernel_rfl) (by kernel_rfl) (by kernel_rfl) (fun _ _ _ h => h) (Or.inl ⟨by rfl, ?_⟩) hHeld ?_
      rotate_left
      · intro w0 hSw; (try dsimp only at hSw); go_simp; (try with_reducible rfl)
      try simp only [Act.put, List.setIfInBounds_toArray, List.set_cons_zero, List.set_cons_succ]
      try simp only [md]
      try simp only [me]
      refine wpAnyH_take (i := 7) (oi := { dst := some 50, op := Go.Op.pick (Go.Operand.tmp 47) (Go.Operand.tmp 49) (Go.Operand.const (Go.Value.bool false)), type := 4, pos := "law.go:81", after := #[{ on := 4, ground := Go.Ground.data }, { on := 6, ground := Go.Ground.data }], guard := none }) (v := ?_) rfl (by kernel_rfl) (by kernel_rfl) (by kernel_rfl) (fun _ _ _ h => h) (Or.inl ⟨by rfl, ?_⟩) hHeld ?_
      rotate_left
      · intro w0 hSw; (try dsimp only at hSw); go_simp; (try with_reducible rfl)
      try simp only [Act.put, List.setIfInBounds_toArray, List.set_cons_zero, List.set_cons_succ]
      try simp only [md]
      try simp only [me]
      refine wpAnyH_take (i := 8) (oi := { dst := some 51, op := Go.Op.binOp Go.BinOp.eql 4 (Go.Operand.tmp 44) (Go.Operand.tmp 50) 4, type := 4, pos := "law.go:81", after := #[{ on := 1, ground := Go.Ground.data }, { on := 7, ground := Go.Ground.data }], guard := none }) (v := ?_) rfl (by kernel_rfl) (by kernel_rfl) (by kernel_rfl) (fun _ _ _ h => h) (Or.inl ⟨by rfl, ?_⟩) hHeld ?_
      rotate_left
      · intro w0 hSw; (try dsimp only at hSw); go_simp; (try with_reducible rfl)
      try simp only [Act.put, List.setIfInBounds_toArray, List.set_cons_zero, List.set_cons_succ]
      try simp only [md]
      try simp only [me]
      refine wpAnyH_take (i := 9) (oi := { dst := some 52, op := Go.Op.move (Go.Operand.tmp 51), type := 4, pos := "law.go:81", after := #[{ on := 8, ground := Go.Ground.data }, { on := 4, ground := Go.Ground.chain }], guard := none }) (v := ?_) rfl (by kernel_rfl) (by kernel_rfl) (by kernel_rfl) (fun _ _ _ h => h) (Or.inl ⟨by rfl, ?_⟩) hHeld ?_
      rotate_left
      · intro w0 hSw; (try dsimp only at hSw); go_simp; (try with_reducible rfl)
      try simp only [Act.put, List.setIfInBounds_toArray, List.set_cons_zero, List.set_cons_succ]
      refine wpAnyH_take (i := 10) (oi := { dst := some 53, op := Go.Op.load 28 (Go.Operand.tmp 8), type := 28, pos := "law.go:81", after := #[{ on := 9, ground := Go.Ground.guard }], guard := some (9, true) }) (v := ?_) rfl (by kernel_rfl) (by kernel_rfl) (by kernel_rfl) (fun _ _ _ h => h) (Or.inl ⟨by rfl, ?_⟩) hHeld ?_
      rotate_left
      · intro w0 hSw; (try dsimp only at hSw); go_simp; (try with_reducible rfl)
      try simp only [Act.put, List.setIfInBounds_toArray, List.set_cons_zero, List.set_cons_succ]
      refine wpAnyH_take (i := 12) (oi := { dst := some 55, op := Go.Op.fieldAddr 28 (Go.Operand.tmp 3) 4, type := 0, pos := "law.go:81", after := #[{ on := 9, ground := Go.Ground.guard }], guard := some (9, true) }) (v := ?_) rfl (by kernel_rfl) (by kernel_rfl) (by kernel_rfl) (fun _ _ _ h => h) (Or.inl ⟨by rfl, ?_⟩) hHeld ?_
      rotate_left
      · intro w0 hSw; (try dsimp only at hSw); go_simp; (try with_reducible rfl)
      try simp only [Act.put, List.setIfInBounds_toArray, List.set_cons_zero, List.set_cons_succ]
      refine wpAnyH_take (i := 13) (oi := { dst := some 56, op := Go.Op.load 26 (Go.Operand.tmp 55), type := 26, pos := "law.go:81", after := #[{ on := 12, ground := Go.Ground.data }, { on := 9, ground := Go.Ground.guard }], guard := some (9, true) }) (v := ?_) rfl (by kernel_rfl) (by kernel_rfl) (by kernel_rfl) (fun _ _ _ h => h) (Or.inl ⟨by rfl, ?_⟩) hHeld ?_
      rotate_left
      · intro w0 hSw; (try dsimp only at hSw); go_simp; (try with_reducible rfl)
      try simp only [Act.put, List.setIfInBounds_toArray, List.set_cons_zero, List.set_cons_succ]
      refine wpAnyH_take (i := 14) (oi := { dst := some 57, op := Go.Op.call { callee := Go.Callee.builtin Go.Builtin.len, args := #[Go.Operand.tmp 56], argTypes := #[26] }, type := 3, pos := "law.go:81", after := #[{ on := 13, ground := Go.Ground.data }, { on := 9, ground := Go.Ground.guard }], guard := some (9, true) }) (v := ?_) rfl (by kernel_rfl) (by kernel_rfl) (by kernel_rfl) (fun _ _ _ h => h) (Or.inl ⟨by rfl, ?_⟩) hHeld ?_
      rotate_left
      · intro w0 hSw; (try dsimp only at hSw); go_simp; (try with_reducible rfl)
      try simp only [Act.put, List.setIfInBounds_toArray, List.set_cons_zero, List.set_cons_succ]
      refine wpAnyH_take (i := 15) (oi := { dst := some 58, op := Go.Op.binOp Go.BinOp.eql 3 (Go.Operand.tmp 57) (Go.Operand.const (Go.Value.int Go.IntKind.i64 0)) 3, type := 4, pos := "law.go:81", after := #[{ on := 14, ground := Go.Ground.data }, { on := 9, ground := Go.Ground.guard }], guard := some (9, true) }) (v := ?_) rfl (by kernel_rfl) (by kernel_rfl) (by kernel_rfl) (fun _ _ _ h => h) (Or.inl ⟨by rfl, ?_⟩) hHeld ?_
      rotate_left
      · intro w0 hSw; (try dsimp only at hSw); go_simp; (try with_reducible rfl)
      try simp only [Act.put, List.setIfInBounds_toArray, List.set_cons_zero, List.set_cons_succ]
      try simp only [md]
      try simp only [me]
      refine wpAnyH_ready (rs := [11]) (by kernel_rfl) (by simp) ?_
      refine AllReadyH.cons (o := { dst := some 54, op := Go.Op.call { callee := Go.Callee.value (Go.Operand.func 9), args := #[Go.Operand.tmp 53], argTypes := #[28] }, type := 4, pos := "law.go:81", after := #[{ on := 10, ground := Go.Ground.data }, { on := 9, ground := Go.Ground.chain }, { on := 9, ground := Go.Ground.guard }], guard := some (9, true) }) rfl (fun K' hK' => ?_) AllReadyH.nil
      go_simp
      go_at_call 9
      refine Calls.mono (D2.out _ K1.out) ?_
      rintro e y2 ⟨q, rfl, hq, hb⟩
      obtain rfl : q = true := Q2.out q hq
      clear hq
      replace B := hid (B.out.trans (hb.mono B.out.size))
      replace KD := hid (KD.out.kept hb)
      replace KE := hid (KE.out.kept hb)
      replace KC := hid (KC.out.kept hb)
      clear hb
      have hz := hid (s15 KD.out KE.out KC.out)
      refine hK'.out _ _ hz.out (fun hHeld => ?_)
      clear hK' K'
      try simp only [Act.put, List.setIfInBounds_toArray, List.set_cons_zero, List.set_cons_succ]
      try simp only [md]
      try simp only [me]
      refine wpAnyH_take (i := 16) (oi := { dst := some 59, op := Go.Op.binOp Go.BinOp.eql 4 (Go.Operand.tmp 54) (Go.Operand.tmp 58) 4, type := 4, pos := "law.go:81", after := #[{ on := 11, ground := Go.Ground.data }, { on := 15, ground := Go.Ground.data }, { on := 9, ground := Go.Ground.guard }], guard := some (9, true) }) (v := ?_) rfl (by kernel_rfl) (by kernel_rfl) (by kernel_rfl) (fun _ _ _ h => h) (Or.inl ⟨by rfl, ?_⟩) hHeld ?_
      rotate_left
      · intro w0 hSw; (try dsimp only at hSw); go_simp; (try with_reducible rfl)
      try simp only [Act.put, List.setIfInBounds_toArray, List.set_cons_zero, List.set_cons_succ]
      try simp only [md]
      try simp only [me]
      refine wpAnyH_take (i := 17) (oi := { dst := some 60, op := Go.Op.pick (Go.Operand.tmp 52) (Go.Operand.tmp 59) (Go.Operand.const (Go.Value.bool false)), type := 4, pos := "law.go:81", after := #[{ on := 9, ground := Go.Ground.data }, { on := 16, ground := Go.Ground.data }], guard := none }) (v := ?_) rfl (by kernel_rfl) (by kernel_rfl) (by kernel_rfl) (fun _ _ _ h => h) (Or.inl ⟨by rfl, ?_⟩) hHeld ?_
      rotate_left
      · intro w0 hSw; (try dsimp only at hSw); go_simp; (try with_reducible rfl)
      try simp only [Act.put, List.setIfInBounds_toArray, List.set_cons_zero, List.set_cons_succ]
      refine wpAnyH_take (i := 18) (oi := { dst := some 6, op := Go.Op.assign (Go.Operand.tmp 60), type := 4, pos := "law.go:81", after := #[{ on := 17, ground := Go.Ground.data }, { on := 11, ground := Go.Ground.chain }, { on := 0, ground := Go.Ground.phase }, { on := 1, ground := Go.Ground.phase }, { on := 2, ground := Go.Ground.phase }, { on := 3, ground := Go.Ground.phase }, { on := 4, ground := Go.Ground.phase }, { on := 5, ground := Go.Ground.phase }, { on := 6, ground := Go.Ground.phase }, { on := 7, ground := Go.Ground.phase }, { on := 8, ground := Go.Ground.phase }, { on := 9, ground := Go.Ground.phase }, { on := 10, ground := Go.Ground.phase }, { on := 11, ground := Go.Ground.phase }, { on := 12, ground := Go.Ground.phase }, { on := 13, ground := Go.Ground.phase }, { on := 14, ground := Go.Ground.phase }, { on := 15, ground := Go.Ground.phase }, { on := 16, ground := Go.Ground.phase }, { on := 17, ground := Go.Ground.phase }], guard := none }) (v := ?_) rfl (by kernel_rfl) (by kernel_rfl) (by kernel_rfl) (fun _ _ _ h => h) (Or.inl ⟨by rfl, ?_⟩) hHeld ?_
      rotate_left
      · intro w0 hSw; (try dsimp only at hSw); go_simp; (try with_reducible rfl)
      try simp only [Act.put, List.setIfInBounds_toArray, List.set_cons_zero, List.set_cons_succ]
      refine wpAnyH_done (by kernel_rfl) ?_ _
      clear hHeld
      go_wp2
      go_ret
      first | exact ⟨rfl, B.out⟩ | exact ⟨retB (by simp), B.out⟩
    · have md : decide (0 ≤ most) = true := decide_eq_true (by omega)
      have me : decide (most ≤ 4096) = false := decide_eq_false (by omega)
      have Q1 : Hid (∀ q : Bool, (q = true ↔ P1) → q = false) := hid (fun q hq => by rw [Q1'] at hq; cases q <;> simp at hq ⊢ <;> omega)
      clear Q1'
      refine wp_region_held_drew (S := fun (w' : World) => w'.cell? ⟨db, 0, none⟩ = some (.slice a0 c.recs.length p0) ∧ w'.cell? ⟨db, 1, none⟩ = some (.slice a1 c.globs.length p1) ∧ w'.cell? ⟨db, 2, none⟩ = some (.slice (some ⟨g, 0, none⟩) nT cap) ∧ w'.cell? ⟨db, 3, none⟩ = some (.slice a3 c.sites.length p3) ∧ w'.cell? ⟨db, 4, none⟩ = some (.slice a4 n4 p4) ∧ w'.cell? ⟨eb, 0, none⟩ = some (.slice a0 c.recs.length p0) ∧ w'.cell? ⟨eb, 1, none⟩ = some (.slice a1 c.globs.length p1) ∧ w'.cell? ⟨eb, 2, none⟩ = some (.slice a2 nT p2) ∧ w'.cell? ⟨eb, 3, none⟩ = some (.slice a3 c.sites.length p3) ∧ w'.cell? ⟨eb, 4, none⟩ = some (.slice none 0 0) ∧ w'.cell? ⟨w.heap.size, 0, none⟩ = some (.slice a0 c.recs.length p0) ∧ w'.cell? ⟨w.heap.size, 1, none⟩ = some (.slice a1 c.globs.length p1) ∧ w'.cell? ⟨w.heap.size, 2, none⟩ = some (.slice a2 nT p2) ∧ w'.cell? ⟨w.heap.size, 3, none⟩ = some (.slice a3 c.sites.length p3) ∧ w'.cell? ⟨w.heap.size, 4, none⟩ = some (.slice a4 n4 p4)) (by kernel_rfl) (s15 KD.out.drew KE.out.drew KC.out.drew) (fun hHeld => ?_)
      refine wpAnyH_take (i := 0) (oi := { dst := some 43, op := Go.Op.load 28 (Go.Operand.tmp 7), type := 28, pos := "law.go:81", after := #[], guard := none }) (v := ?_) rfl (by kernel_rfl) (by kernel_rfl) (by kernel_rfl) (fun _ _ _ h => h) (Or.inl ⟨by rfl, ?_⟩) hHeld ?_
      rotate_left
      · intro w0 hSw; (try dsimp only at hSw); go_simp; (try with_reducible rfl)
      try simp only [Act.put, List.setIfInBounds_toArray, List.set_cons_zero, List.set_cons_succ]
      refine wpAnyH_take (i := 2) (oi := { dst := some 45, op := Go.Op.move (Go.Operand.tmp 2), type := 3, pos := "law.go:81", after := #[], guard := none }) (v := ?_) rfl (by kernel_rfl) (by kernel_rfl) (by kernel_rfl) (fun _ _ _ h => h) (Or.inl ⟨by rfl, ?_⟩) hHeld ?_
      rotate_left
      · intro w0 hSw; (try dsimp only at hSw); go_simp; (try with_reducible rfl)
      try simp only [Act.put, List.setIfInBounds_toArray, List.set_cons_zero, List.set_cons_succ]
      refine wpAnyH_take (i := 3) (oi := { dst := some 46, op := Go.Op.binOp Go.BinOp.geq 3 (Go.Operand.tmp 45) (Go.Operand.const (Go.Value.int Go.IntKind.i64 0)) 3, type := 4, pos := "law.go:81", after := #[{ on := 2, ground := Go.Ground.data }], guard := none }) (v := ?_) rfl (by kernel_rfl) (by kernel_rfl) (by kernel_rfl) (fun _ _ _ h => h) (Or.inl ⟨by rfl, ?_⟩) hHeld ?_
      rotate_left
      · intro w0 hSw; (try dsimp only at hSw); go_simp; (try with_reducible rfl)
      try simp only [Act.put, List.setIfInBounds_toArray, List.set_cons_zero, List.set_cons_succ]
      try simp only [md]
      try simp only [me]
      refine wpAnyH_ready (rs := [1]) (by kernel_rfl) (by simp) ?_
      refine AllReadyH.cons (o := { dst := some 44, op := Go.Op.call { callee := Go.Callee.value (Go.Operand.func 9), args := #[Go.Operand.tmp 43], argTypes := #[28] }, type := 4, pos := "law.go:81", after := #[{ on := 0, ground := Go.Ground.data }], guard := none }) rfl (fun K' hK' => ?_) AllReadyH.nil
      go_simp
      have B9 := hid B.out.drew
      have R9 := hid KD.out.drew
      have R8 := hid KE.out.drew
      have R7 := hid KC.out.drew
      replace B := B9
      replace KD := R9
      replace KE := R8
      replace KC := R7
      clear B9 R9 R8 R7
      go_at_call 9
      refine Calls.mono (D1.out _ (by exact K0.out.drew)) ?_
      rintro e y1 ⟨q, rfl, hq, hb⟩
      obtain rfl : q = false := Q1.out q hq
      clear hq
      have K1 := hid (K0.out.drew.trans (hb.mono K0.out.drew.size))
      replace B := hid (B.out.trans (hb.mono B.out.size))
      replace KD := hid (KD.out.kept hb)
      replace KE := hid (KE.out.kept hb)
      replace KC := hid (KC.out.kept hb)
      clear hb
      have hz := hid (s15 KD.out KE.out KC.out)
      refine hK'.out _ _ hz.out (fun hHeld => ?_)
      clear hK' K'
      try simp only [Act.put, List.setIfInBounds_toArray, List.set_cons_zero, List.set_cons_succ]
      try simp only [md]
      try simp only [me]
      refine wpAnyH_take (i := 4) (oi := { dst := some 47, op := Go.Op.move (Go.Operand.tmp 46), type := 4, pos := "law.go:81", after := #[{ on := 3, ground := Go.Ground.data }, { on := 1, ground := Go.Ground.chain }], guard := none }) (v := ?_) rfl (by kernel_rfl) (by kernel_rfl) (by kernel_rfl) (fun _ _ _ h => h) (Or.inl ⟨by rfl, ?_⟩) hHeld ?_
      rotate_left
      · intro w0 hSw; (try dsimp only at hSw); go_simp; (try with_reducible rfl)
      try simp only [Act.put, List.setIfInBounds_toArray, List.set_cons_zero, List.set_cons_succ]
      try simp only [md]
      try simp only [me]
      refine wpAnyH_take (i := 5) (oi := { dst := some 48, op := Go.Op.move (Go.Operand.tmp 2), type := 3, pos := "law.go:81", after := #[{ on := 4, ground := Go.Ground.guard }], guard := some (4, true) }) (v := ?_) rfl (by kernel_rfl) (by kernel_rfl) (by kernel_rfl) (fun _ _ _ h => h) (Or.inl ⟨by rfl, ?_⟩) hHeld ?_
      rotate_left
      · intro w0 hSw; (try dsimp only at hSw); go_simp; (try with_reducible rfl)
      try simp only [Act.put, List.setIfInBounds_toArray, List.set_cons_zero, List.set_cons_succ]
      refine wpAnyH_take (i := 6) (oi := { dst := some 49, op := Go.Op.binOp Go.BinOp.leq 3 (Go.Operand.tmp 48) (Go.Operand.const (Go.Value.int Go.IntKind.i64 4096)) 3, type := 4, pos := "law.go:81", after := #[{ on := 5, ground := Go.Ground.data }, { on := 4, ground := Go.Ground.guard }], guard := some (4, true) }) (v := ?_) rfl (by kernel_rfl) (by kernel_rfl) (by kernel_rfl) (fun _ _ _ h => h) (Or.inl ⟨by rfl, ?_⟩) hHeld ?_
      rotate_left
      · intro w0 hSw; (try dsimp only at hSw); go_simp; (try with_reducible rfl)
      try simp only [Act.put, List.setIfInBounds_toArray, List.set_cons_zero, List.set_cons_succ]
      try simp only [md]
      try simp only [me]
      refine wpAnyH_take (i := 7) (oi := { dst := some 50, op := Go.Op.pick (Go.Operand.tmp 47) (Go.Operand.tmp 49) (Go.Operand.const (Go.Value.bool false)), type := 4, pos := "law.go:81", after := #[{ on := 4, ground := Go.Ground.data }, { on := 6, ground := Go.Ground.data }], guard := none }) (v := ?_) rfl (by kernel_rfl) (by kernel_rfl) (by kernel_rfl) (fun _ _ _ h => h) (Or.inl ⟨by rfl, ?_⟩) hHeld ?_
      rotate_left
      · intro w0 hSw; (try dsimp only at hSw); go_simp; (try with_reducible rfl)
      try simp only [Act.put, List.setIfInBounds_toArray, List.set_cons_zero, List.set_cons_succ]
      try simp only [md]
      try simp only [me]
      refine wpAnyH_take (i := 8) (oi := { dst := some 51, op := Go.Op.binOp Go.BinOp.eql 4 (Go.Operand.tmp 44) (Go.Operand.tmp 50) 4, type := 4, pos := "law.go:81", after := #[{ on := 1, ground := Go.Ground.data }, { on := 7, ground := Go.Ground.data }], guard := none }) (v := ?_) rfl (by kernel_rfl) (by kernel_rfl) (by kernel_rfl) (fun _ _ _ h => h) (Or.inl ⟨by rfl, ?_⟩) hHeld ?_
      rotate_left
      · intro w0 hSw; (try dsimp only at hSw); go_simp; (try with_reducible rfl)
      try simp only [Act.put, List.setIfInBounds_toArray, List.set_cons_zero, List.set_cons_succ]
      try simp only [md]
      try simp only [me]
      refine wpAnyH_take (i := 9) (oi := { dst := some 52, op := Go.Op.move (Go.Operand.tmp 51), type := 4, pos := "law.go:81", after := #[{ on := 8, ground := Go.Ground.data }, { on := 4, ground := Go.Ground.chain }], guard := none }) (v := ?_) rfl (by kernel_rfl) (by kernel_rfl) (by kernel_rfl) (fun _ _ _ h => h) (Or.inl ⟨by rfl, ?_⟩) hHeld ?_
      rotate_left
      · intro w0 hSw; (try dsimp only at hSw); go_simp; (try with_reducible rfl)
      try simp only [Act.put, List.setIfInBounds_toArray, List.set_cons_zero, List.set_cons_succ]
      refine wpAnyH_take (i := 10) (oi := { dst := some 53, op := Go.Op.load 28 (Go.Operand.tmp 8), type := 28, pos := "law.go:81", after := #[{ on := 9, ground := Go.Ground.guard }], guard := some (9, true) }) (v := ?_) rfl (by kernel_rfl) (by kernel_rfl) (by kernel_rfl) (fun _ _ _ h => h) (Or.inl ⟨by rfl, ?_⟩) hHeld ?_
      rotate_left
      · intro w0 hSw; (try dsimp only at hSw); go_simp; (try with_reducible rfl)
      try simp only [Act.put, List.setIfInBounds_toArray, List.set_cons_zero, List.set_cons_succ]
      refine wpAnyH_take (i := 12) (oi := { dst := some 55, op := Go.Op.fieldAddr 28 (Go.Operand.tmp 3) 4, type := 0, pos := "law.go:81", after := #[{ on := 9, ground := Go.Ground.guard }], guard := some (9, true) }) (v := ?_) rfl (by kernel_rfl) (by kernel_rfl) (by kernel_rfl) (fun _ _ _ h => h) (Or.inl ⟨by rfl, ?_⟩) hHeld ?_
      rotate_left
      · intro w0 hSw; (try dsimp only at hSw); go_simp; (try with_reducible rfl)
      try simp only [Act.put, List.setIfInBounds_toArray, List.set_cons_zero, List.set_cons_succ]
      refine wpAnyH_take (i := 13) (oi := { dst := some 56, op := Go.Op.load 26 (Go.Operand.tmp 55), type := 26, pos := "law.go:81", after := #[{ on := 12, ground := Go.Ground.data }, { on := 9, ground := Go.Ground.guard }], guard := some (9, true) }) (v := ?_) rfl (by kernel_rfl) (by kernel_rfl) (by kernel_rfl) (fun _ _ _ h => h) (Or.inl ⟨by rfl, ?_⟩) hHeld ?_
      rotate_left
      · intro w0 hSw; (try dsimp only at hSw); go_simp; (try with_reducible rfl)
      try simp only [Act.put, List.setIfInBounds_toArray, List.set_cons_zero, List.set_cons_succ]
      refine wpAnyH_take (i := 14) (oi := { dst := some 57, op := Go.Op.call { callee := Go.Callee.builtin Go.Builtin.len, args := #[Go.Operand.tmp 56], argTypes := #[26] }, type := 3, pos := "law.go:81", after := #[{ on := 13, ground := Go.Ground.data }, { on := 9, ground := Go.Ground.guard }], guard := some (9, true) }) (v := ?_) rfl (by kernel_rfl) (by kernel_rfl) (by kernel_rfl) (fun _ _ _ h => h) (Or.inl ⟨by rfl, ?_⟩) hHeld ?_
      rotate_left
      · intro w0 hSw; (try dsimp only at hSw); go_simp; (try with_reducible rfl)
      try simp only [Act.put, List.setIfInBounds_toArray, List.set_cons_zero, List.set_cons_succ]
      refine wpAnyH_take (i := 15) (oi := { dst := some 58, op := Go.Op.binOp Go.BinOp.eql 3 (Go.Operand.tmp 57) (Go.Operand.const (Go.Value.int Go.IntKind.i64 0)) 3, type := 4, pos := "law.go:81", after := #[{ on := 14, ground := Go.Ground.data }, { on := 9, ground := Go.Ground.guard }], guard := some (9, true) }) (v := ?_) rfl (by kernel_rfl) (by kernel_rfl) (by kernel_rfl) (fun _ _ _ h => h) (Or.inl ⟨by rfl, ?_⟩) hHeld ?_
      rotate_left
      · intro w0 hSw; (try dsimp only at hSw); go_simp; (try with_reducible rfl)
      try simp only [Act.put, List.setIfInBounds_toArray, List.set_cons_zero, List.set_cons_succ]
      try simp only [md]
      try simp only [me]
      refine wpAnyH_ready (rs := [11]) (by kernel_rfl) (by simp) ?_
      refine AllReadyH.cons (o := { dst := some 54, op := Go.Op.call { callee := Go.Callee.value (Go.Operand.func 9), args := #[Go.Operand.tmp 53], argTypes := #[28] }, type := 4, pos := "law.go:81", after := #[{ on := 10, ground := Go.Ground.data }, { on := 9, ground := Go.Ground.chain }, { on := 9, ground := Go.Ground.guard }], guard := some (9, true) }) rfl (fun K' hK' => ?_) AllReadyH.nil
      go_simp
      go_at_call 9
      refine Calls.mono (D2.out _ K1.out) ?_
      rintro e y2 ⟨q, rfl, hq, hb⟩
      obtain rfl : q = true := Q2.out q hq
      clear hq
      replace B := hid (B.out.trans (hb.mono B.out.size))
      replace KD := hid (KD.out.kept hb)
      replace KE := hid (KE.out.kept hb)
      replace KC := hid (KC.out.kept hb)
      clear hb
      have hz := hid (s15 KD.out KE.out KC.out)
      refine hK'.out _ _ hz.out (fun hHeld => ?_)
      clear hK' K'
      try simp only [Act.put, List.setIfInBounds_toArray, List.set_cons_zero, List.set_cons_succ]
      try simp only [md]
      try simp only [me]
      refine wpAnyH_take (i := 16) (oi := { dst := some 59, op := Go.Op.binOp Go.BinOp.eql 4 (Go.Operand.tmp 54) (Go.Operand.tmp 58) 4, type := 4, pos := "law.go:81", after := #[{ on := 11, ground := Go.Ground.data }, { on := 15, ground := Go.Ground.data }, { on := 9, ground := Go.Ground.guard }], guard := some (9, true) }) (v := ?_) rfl (by kernel_rfl) (by kernel_rfl) (by kernel_rfl) (fun _ _ _ h => h) (Or.inl ⟨by rfl, ?_⟩) hHeld ?_
      rotate_left
      · intro w0 hSw; (try dsimp only at hSw); go_simp; (try with_reducible rfl)
      try simp only [Act.put, List.setIfInBounds_toArray, List.set_cons_zero, List.set_cons_succ]
      try simp only [md]
      try simp only [me]
      refine wpAnyH_take (i := 17) (oi := { dst := some 60, op := Go.Op.pick (Go.Operand.tmp 52) (Go.Operand.tmp 59) (Go.Operand.const (Go.Value.bool false)), type := 4, pos := "law.go:81", after := #[{ on := 9, ground := Go.Ground.data }, { on := 16, ground := Go.Ground.data }], guard := none }) (v := ?_) rfl (by kernel_rfl) (by kernel_rfl) (by kernel_rfl) (fun _ _ _ h => h) (Or.inl ⟨by rfl, ?_⟩) hHeld ?_
      rotate_left
      · intro w0 hSw; (try dsimp only at hSw); go_simp; (try with_reducible rfl)
      try simp only [Act.put, List.setIfInBounds_toArray, List.set_cons_zero, List.set_cons_succ]
      refine wpAnyH_take (i := 18) (oi := { dst := some 6, op := Go.Op.assign (Go.Operand.tmp 60), type := 4, pos := "law.go:81", after := #[{ on := 17, ground := Go.Ground.data }, { on := 11, ground := Go.Ground.chain }, { on := 0, ground := Go.Ground.phase }, { on := 1, ground := Go.Ground.phase }, { on := 2, ground := Go.Ground.phase }, { on := 3, ground := Go.Ground.phase }, { on := 4, ground := Go.Ground.phase }, { on := 5, ground := Go.Ground.phase }, { on := 6, ground := Go.Ground.phase }, { on := 7, ground := Go.Ground.phase }, { on := 8, ground := Go.Ground.phase }, { on := 9, ground := Go.Ground.phase }, { on := 10, ground := Go.Ground.phase }, { on := 11, ground := Go.Ground.phase }, { on := 12, ground := Go.Ground.phase }, { on := 13, ground := Go.Ground.phase }, { on := 14, ground := Go.Ground.phase }, { on := 15, ground := Go.Ground.phase }, { on := 16, ground := Go.Ground.phase }, { on := 17, ground := Go.Ground.phase }], guard := none }) (v := ?_) rfl (by kernel_rfl) (by kernel_rfl) (by kernel_rfl) (fun _ _ _ h => h) (Or.inl ⟨by rfl, ?_⟩) hHeld ?_
      rotate_left
      · intro w0 hSw; (try dsimp only at hSw); go_simp; (try with_reducible rfl)
      try simp only [Act.put, List.setIfInBounds_toArray, List.set_cons_zero, List.set_cons_succ]
      refine wpAnyH_done (by kernel_rfl) ?_ _
      clear hHeld
      go_wp2
      go_ret
      first | exact ⟨rfl, B.out⟩ | exact ⟨retB (by simp), B.out⟩
  · have z4 : ((n4 : Int) == 0) = false := by simp only [beq_eq_false_iff_ne]; omega
    have Q2 : Hid (∀ q : Bool, (q = true ↔ P2) → q = false) := hid (fun q hq => by cases q <;> simp_all)
    clear Q2' hz4
    rcases hcase with h | ⟨h, h'⟩ | h
    · have md : decide (0 ≤ most) = false := decide_eq_false (by omega)
      have Q1 : Hid (∀ q : Bool, (q = true ↔ P1) → q = false) := hid (fun q hq => by rw [Q1'] at hq; cases q <;> simp at hq ⊢ <;> omega)
      clear Q1'
      refine wp_region_held_drew (S := fun (w' : World) => w'.cell? ⟨db, 0, none⟩ = some (.slice a0 c.recs.length p0) ∧ w'.cell? ⟨db, 1, none⟩ = some (.slice a1 c.globs.length p1) ∧ w'.cell? ⟨db, 2, none⟩ = some (.slice (some ⟨g, 0, none⟩) nT cap) ∧ w'.cell? ⟨db, 3, none⟩ = some (.slice a3 c.sites.length p3) ∧ w'.cell? ⟨db, 4, none⟩ = some (.slice a4 n4 p4) ∧ w'.cell? ⟨eb, 0, none⟩ = some (.slice a0 c.recs.length p0) ∧ w'.cell? ⟨eb, 1, none⟩ = some (.slice a1 c.globs.length p1) ∧ w'.cell? ⟨eb, 2, none⟩ = some (.slice a2 nT p2) ∧ w'.cell? ⟨eb, 3, none⟩ = some (.slice a3 c.sites.length p3) ∧ w'.cell? ⟨eb, 4, none⟩ = some (.slice none 0 0) ∧ w'.cell? ⟨w.heap.size, 0, none⟩ = some (.slice a0 c.recs.length p0) ∧ w'.cell? ⟨w.heap.size, 1, none⟩ = some (.slice a1 c.globs.length p1) ∧ w'.cell? ⟨w.heap.size, 2, none⟩ = some (.slice a2 nT p2) ∧ w'.cell? ⟨w.heap.size, 3, none⟩ = some (.slice a3 c.sites.length p3) ∧ w'.cell? ⟨w.heap.size, 4, none⟩ = some (.slice a4 n4 p4)) (by kernel_rfl) (s15 KD.out.drew KE.out.drew KC.out.drew) (fun hHeld => ?_)
      refine wpAnyH_take (i := 0) (oi := { dst := some 43, op := Go.Op.load 28 (Go.Operand.tmp 7), type := 28, pos := "law.go:81", after := #[], guard := none }) (v := ?_) rfl (by kernel_rfl) (by kernel_rfl) (by kernel_rfl) (fun _ _ _ h => h) (Or.inl ⟨by rfl, ?_⟩) hHeld ?_
      rotate_left
      · intro w0 hSw; (try dsimp only at hSw); go_simp; (try with_reducible rfl)
      try simp only [Act.put, List.setIfInBounds_toArray, List.set_cons_zero, List.set_cons_succ]
      refine wpAnyH_take (i := 2) (oi := { dst := some 45, op := Go.Op.move (Go.Operand.tmp 2), type := 3, pos := "law.go:81", after := #[], guard := none }) (v := ?_) rfl (by kernel_rfl) (by kernel_rfl) (by kernel_rfl) (fun _ _ _ h => h) (Or.inl ⟨by rfl, ?_⟩) hHeld ?_
      rotate_left
      · intro w0 hSw; (try dsimp only at hSw); go_simp; (try with_reducible rfl)
      try simp only [Act.put, List.setIfInBounds_toArray, List.set_cons_zero, List.set_cons_succ]
      refine wpAnyH_take (i := 3) (oi := { dst := some 46, op := Go.Op.binOp Go.BinOp.geq 3 (Go.Operand.tmp 45) (Go.Operand.const (Go.Value.int Go.IntKind.i64 0)) 3, type := 4, pos := "law.go:81", after := #[{ on := 2, ground := Go.Ground.data }], guard := none }) (v := ?_) rfl (by kernel_rfl) (by kernel_rfl) (by kernel_rfl) (fun _ _ _ h => h) (Or.inl ⟨by rfl, ?_⟩) hHeld ?_
      rotate_left
      · intro w0 hSw; (try dsimp only at hSw); go_simp; (try with_reducible rfl)
      try simp only [Act.put, List.setIfInBounds_toArray, List.set_cons_zero, List.set_cons_succ]
      try simp only [md]
      refine wpAnyH_ready (rs := [1]) (by kernel_rfl) (by simp) ?_
      refine AllReadyH.cons (o := { dst := some 44, op := Go.Op.call { callee := Go.Callee.value (Go.Operand.func 9), args := #[Go.Operand.tmp 43], argTypes := #[28] }, type := 4, pos := "law.go:81", after := #[{ on := 0, ground := Go.Ground.data }], guard := none }) rfl (fun K' hK' => ?_) AllReadyH.nil
      go_simp
      have B9 := hid B.out.drew
      have R9 := hid KD.out.drew
      have R8 := hid KE.out.drew
      have R7 := hid KC.out.drew
      replace B := B9
      replace KD := R9
      replace KE := R8
      replace KC := R7
      clear B9 R9 R8 R7
      go_at_call 9
      refine Calls.mono (D1.out _ (by exact K0.out.drew)) ?_
      rintro e y1 ⟨q, rfl, hq, hb⟩
      obtain rfl : q = false := Q1.out q hq
      clear hq
      have K1 := hid (K0.out.drew.trans (hb.mono K0.out.drew.size))
      replace B := hid (B.out.trans (hb.mono B.out.size))
      replace KD := hid (KD.out.kept hb)
      replace KE := hid (KE.out.kept hb)
      replace KC := hid (KC.out.kept hb)
      clear hb
      have hz := hid (s15 KD.out KE.out KC.out)
      refine hK'.out _ _ hz.out (fun hHeld => ?_)
      clear hK' K'
      try simp only [Act.put, List.setIfInBounds_toArray, List.set_cons_zero, List.set_cons_succ]
      try simp only [md]
      refine wpAnyH_take (i := 4) (oi := { dst := some 47, op := Go.Op.move (Go.Operand.tmp 46), type := 4, pos := "law.go:81", after := #[{ on := 3, ground := Go.Ground.data }, { on := 1, ground := Go.Ground.chain }], guard := none }) (v := ?_) rfl (by kernel_rfl) (by kernel_rfl) (by kernel_rfl) (fun _ _ _ h => h) (Or.inl ⟨by rfl, ?_⟩) hHeld ?_
      rotate_left
      · intro w0 hSw; (try dsimp only at hSw); go_simp; (try with_reducible rfl)
      try simp only [Act.put, List.setIfInBounds_toArray, List.set_cons_zero, List.set_cons_succ]
      try simp only [md]
      refine wpAnyH_take (i := 5) (oi := { dst := some 48, op := Go.Op.move (Go.Operand.tmp 2), type := 3, pos := "law.go:81", after := #[{ on := 4, ground := Go.Ground.guard }], guard := some (4, true) }) (v := undef) rfl (by kernel_rfl) (by kernel_rfl) (by kernel_rfl) (fun _ _ _ h => h) (Or.inr ⟨by rfl, rfl⟩) hHeld ?_
      try simp only [Act.put, List.setIfInBounds_toArray, List.set_cons_zero, List.set_cons_succ]
      refine wpAnyH_take (i := 6) (oi := { dst := some 49, op := Go.Op.binOp Go.BinOp.leq 3 (Go.Operand.tmp 48) (Go.Operand.const (Go.Value.int Go.IntKind.i64 4096)) 3, type := 4, pos := "law.go:81", after := #[{ on := 5, ground := Go.Ground.data }, { on := 4, ground := Go.Ground.guard }], guard := some (4, true) }) (v := undef) rfl (by kernel_rfl) (by kernel_rfl) (by kernel_rfl) (fun _ _ _ h => h) (Or.inr ⟨by rfl, rfl⟩) hHeld ?_
      try simp only [Act.put, List.setIfInBounds_toArray, List.set_cons_zero, List.set_cons_succ]
      try simp only [md]
      refine wpAnyH_take (i := 7) (oi := { dst := some 50, op := Go.Op.pick (Go.Operand.tmp 47) (Go.Operand.tmp 49) (Go.Operand.const (Go.Value.bool false)), type := 4, pos := "law.go:81", after := #[{ on := 4, ground := Go.Ground.data }, { on := 6, ground := Go.Ground.data }], guard := none }) (v := ?_) rfl (by kernel_rfl) (by kernel_rfl) (by kernel_rfl) (fun _ _ _ h => h) (Or.inl ⟨by rfl, ?_⟩) hHeld ?_
      rotate_left
      · intro w0 hSw; (try dsimp only at hSw); go_simp; (try with_reducible rfl)
      try simp only [Act.put, List.setIfInBounds_toArray, List.set_cons_zero, List.set_cons_succ]
      try simp only [md]
      refine wpAnyH_take (i := 8) (oi := { dst := some 51, op := Go.Op.binOp Go.BinOp.eql 4 (Go.Operand.tmp 44) (Go.Operand.tmp 50) 4, type := 4, pos := "law.go:81", after := #[{ on := 1, ground := Go.Ground.data }, { on := 7, ground := Go.Ground.data }], guard := none }) (v := ?_) rfl (by kernel_rfl) (by kernel_rfl) (by kernel_rfl) (fun _ _ _ h => h) (Or.inl ⟨by rfl, ?_⟩) hHeld ?_
      rotate_left
      · intro w0 hSw; (try dsimp only at hSw); go_simp; (try with_reducible rfl)
      try simp only [Act.put, List.setIfInBounds_toArray, List.set_cons_zero, List.set_cons_succ]
      try simp only [md]
      refine wpAnyH_take (i := 9) (oi := { dst := some 52, op := Go.Op.move (Go.Operand.tmp 51), type := 4, pos := "law.go:81", after := #[{ on := 8, ground := Go.Ground.data }, { on := 4, ground := Go.Ground.chain }], guard := none }) (v := ?_) rfl (by kernel_rfl) (by kernel_rfl) (by kernel_rfl) (fun _ _ _ h => h) (Or.inl ⟨by rfl, ?_⟩) hHeld ?_
      rotate_left
      · intro w0 hSw; (try dsimp only at hSw); go_simp; (try with_reducible rfl)
      try simp only [Act.put, List.setIfInBounds_toArray, List.set_cons_zero, List.set_cons_succ]
      refine wpAnyH_take (i := 10) (oi := { dst := some 53, op := Go.Op.load 28 (Go.Operand.tmp 8), type := 28, pos := "law.go:81", after := #[{ on := 9, ground := Go.Ground.guard }], guard := some (9, true) }) (v := ?_) rfl (by kernel_rfl) (by kernel_rfl) (by kernel_rfl) (fun _ _ _ h => h) (Or.inl ⟨by rfl, ?_⟩) hHeld ?_
      rotate_left
      · intro w0 hSw; (try dsimp only at hSw); go_simp; (try with_reducible rfl)
      try simp only [Act.put, List.setIfInBounds_toArray, List.set_cons_zero, List.set_cons_succ]
      refine wpAnyH_take (i := 12) (oi := { dst := some 55, op := Go.Op.fieldAddr 28 (Go.Operand.tmp 3) 4, type := 0, pos := "law.go:81", after := #[{ on := 9, ground := Go.Ground.guard }], guard := some (9, true) }) (v := ?_) rfl (by kernel_rfl) (by kernel_rfl) (by kernel_rfl) (fun _ _ _ h => h) (Or.inl ⟨by rfl, ?_⟩) hHeld ?_
      rotate_left
      · intro w0 hSw; (try dsimp only at hSw); go_simp; (try with_reducible rfl)
      try simp only [Act.put, List.setIfInBounds_toArray, List.set_cons_zero, List.set_cons_succ]
      refine wpAnyH_take (i := 13) (oi := { dst := some 56, op := Go.Op.load 26 (Go.Operand.tmp 55), type := 26, pos := "law.go:81", after := #[{ on := 12, ground := Go.Ground.data }, { on := 9, ground := Go.Ground.guard }], guard := some (9, true) }) (v := ?_) rfl (by kernel_rfl) (by kernel_rfl) (by kernel_rfl) (fun _ _ _ h => h) (Or.inl ⟨by rfl, ?_⟩) hHeld ?_
      rotate_left
      · intro w0 hSw; (try dsimp only at hSw); go_simp; (try with_reducible rfl)
      try simp only [Act.put, List.setIfInBounds_toArray, List.set_cons_zero, List.set_cons_succ]
      refine wpAnyH_take (i := 14) (oi := { dst := some 57, op := Go.Op.call { callee := Go.Callee.builtin Go.Builtin.len, args := #[Go.Operand.tmp 56], argTypes := #[26] }, type := 3, pos := "law.go:81", after := #[{ on := 13, ground := Go.Ground.data }, { on := 9, ground := Go.Ground.guard }], guard := some (9, true) }) (v := ?_) rfl (by kernel_rfl) (by kernel_rfl) (by kernel_rfl) (fun _ _ _ h => h) (Or.inl ⟨by rfl, ?_⟩) hHeld ?_
      rotate_left
      · intro w0 hSw; (try dsimp only at hSw); go_simp; (try with_reducible rfl)
      try simp only [Act.put, List.setIfInBounds_toArray, List.set_cons_zero, List.set_cons_succ]
      refine wpAnyH_take (i := 15) (oi := { dst := some 58, op := Go.Op.binOp Go.BinOp.eql 3 (Go.Operand.tmp 57) (Go.Operand.const (Go.Value.int Go.IntKind.i64 0)) 3, type := 4, pos := "law.go:81", after := #[{ on := 14, ground := Go.Ground.data }, { on := 9, ground := Go.Ground.guard }], guard := some (9, true) }) (v := ?_) rfl (by kernel_rfl) (by kernel_rfl) (by kernel_rfl) (fun _ _ _ h => h) (Or.inl ⟨by rfl, ?_⟩) hHeld ?_
      rotate_left
      · intro w0 hSw; (try dsimp only at hSw); go_simp; (try with_reducible rfl)
      try simp only [Act.put, List.setIfInBounds_toArray, List.set_cons_zero, List.set_cons_succ]
      try simp only [md]
      refine wpAnyH_ready (rs := [11]) (by kernel_rfl) (by simp) ?_
      refine AllReadyH.cons (o := { dst := some 54, op := Go.Op.call { callee := Go.Callee.value (Go.Operand.func 9), args := #[Go.Operand.tmp 53], argTypes := #[28] }, type := 4, pos := "law.go:81", after := #[{ on := 10, ground := Go.Ground.data }, { on := 9, ground := Go.Ground.chain }, { on := 9, ground := Go.Ground.guard }], guard := some (9, true) }) rfl (fun K' hK' => ?_) AllReadyH.nil
      go_simp
      go_at_call 9
      refine Calls.mono (D2.out _ K1.out) ?_
      rintro e y2 ⟨q, rfl, hq, hb⟩
      obtain rfl : q = false := Q2.out q hq
      clear hq
      replace B := hid (B.out.trans (hb.mono B.out.size))
      replace KD := hid (KD.out.kept hb)
      replace KE := hid (KE.out.kept hb)
      replace KC := hid (KC.out.kept hb)
      clear hb
      have hz := hid (s15 KD.out KE.out KC.out)
      refine hK'.out _ _ hz.out (fun hHeld => ?_)
      clear hK' K'
      try simp only [Act.put, List.setIfInBounds_toArray, List.set_cons_zero, List.set_cons_succ]
      try simp only [md]
      refine wpAnyH_take (i := 16) (oi := { dst := some 59, op := Go.Op.binOp Go.BinOp.eql 4 (Go.Operand.tmp 54) (Go.Operand.tmp 58) 4, type := 4, pos := "law.go:81", after := #[{ on := 11, ground := Go.Ground.data }, { on := 15, ground := Go.Ground.data }, { on := 9, ground := Go.Ground.guard }], guard := some (9, true) }) (v := ?_) rfl (by kernel_rfl) (by kernel_rfl) (by kernel_rfl) (fun _ _ _ h => h) (Or.inl ⟨by rfl, ?_⟩) hHeld ?_
      rotate_left
      · intro w0 hSw; (try dsimp only at hSw); go_simp; (try with_reducible rfl)
      try simp only [Act.put, List.setIfInBounds_toArray, List.set_cons_zero, List.set_cons_succ]
      try simp only [md]
      refine wpAnyH_take (i := 17) (oi := { dst := some 60, op := Go.Op.pick (Go.Operand.tmp 52) (Go.Operand.tmp 59) (Go.Operand.const (Go.Value.bool false)), type := 4, pos := "law.go:81", after := #[{ on := 9, ground := Go.Ground.data }, { on := 16, ground := Go.Ground.data }], guard := none }) (v := ?_) rfl (by kernel_rfl) (by kernel_rfl) (by kernel_rfl) (fun _ _ _ h => h) (Or.inl ⟨by rfl, ?_⟩) hHeld ?_
      rotate_left
      · intro w0 hSw; (try dsimp only at hSw); go_simp; (try with_reducible rfl)
      try simp only [Act.put, List.setIfInBounds_toArray, List.set_cons_zero, List.set_cons_succ]
      refine wpAnyH_take (i := 18) (oi := { dst := some 6, op := Go.Op.assign (Go.Operand.tmp 60), type := 4, pos := "law.go:81", after := #[{ on := 17, ground := Go.Ground.data }, { on := 11, ground := Go.Ground.chain }, { on := 0, ground := Go.Ground.phase }, { on := 1, ground := Go.Ground.phase }, { on := 2, ground := Go.Ground.phase }, { on := 3, ground := Go.Ground.phase }, { on := 4, ground := Go.Ground.phase }, { on := 5, ground := Go.Ground.phase }, { on := 6, ground := Go.Ground.phase }, { on := 7, ground := Go.Ground.phase }, { on := 8, ground := Go.Ground.phase }, { on := 9, ground := Go.Ground.phase }, { on := 10, ground := Go.Ground.phase }, { on := 11, ground := Go.Ground.phase }, { on := 12, ground := Go.Ground.phase }, { on := 13, ground := Go.Ground.phase }, { on := 14, ground := Go.Ground.phase }, { on := 15, ground := Go.Ground.phase }, { on := 16, ground := Go.Ground.phase }, { on := 17, ground := Go.Ground.phase }], guard := none }) (v := ?_) rfl (by kernel_rfl) (by kernel_rfl) (by kernel_rfl) (fun _ _ _ h => h) (Or.inl ⟨by rfl, ?_⟩) hHeld ?_
      rotate_left
      · intro w0 hSw; (try dsimp only at hSw); go_simp; (try with_reducible rfl)
      try simp only [Act.put, List.setIfInBounds_toArray, List.set_cons_zero, List.set_cons_succ]
      refine wpAnyH_done (by kernel_rfl) ?_ _
      clear hHeld
      go_wp2
      go_ret
      first | exact ⟨rfl, B.out⟩ | exact ⟨retB (by simp), B.out⟩
    · have md : decide (0 ≤ most) = true := decide_eq_true h
      have me : decide (most ≤ 4096) = true := decide_eq_true h'
      have Q1 : Hid (∀ q : Bool, (q = true ↔ P1) → q = true) := hid (fun q hq => by rw [Q1'] at hq; cases q <;> simp at hq ⊢ <;> omega)
      clear Q1'
      refine wp_region_held_drew (S := fun (w' : World) => w'.cell? ⟨db, 0, none⟩ = some (.slice a0 c.recs.length p0) ∧ w'.cell? ⟨db, 1, none⟩ = some (.slice a1 c.globs.length p1) ∧ w'.cell? ⟨db, 2, none⟩ = some (.slice (some ⟨g, 0, none⟩) nT cap) ∧ w'.cell? ⟨db, 3, none⟩ = some (.slice a3 c.sites.length p3) ∧ w'.cell? ⟨db, 4, none⟩ = some (.slice a4 n4 p4) ∧ w'.cell? ⟨eb, 0, none⟩ = some (.slice a0 c.recs.length p0) ∧ w'.cell? ⟨eb, 1, none⟩ = some (.slice a1 c.globs.length p1) ∧ w'.cell? ⟨eb, 2, none⟩ = some (.slice a2 nT p2) ∧ w'.cell? ⟨eb, 3, none⟩ = some (.slice a3 c.sites.length p3) ∧ w'.cell? ⟨eb, 4, none⟩ = some (.slice none 0 0) ∧ w'.cell? ⟨w.heap.size, 0, none⟩ = some (.slice a0 c.recs.length p0) ∧ w'.cell? ⟨w.heap.size, 1, none⟩ = some (.slice a1 c.globs.length p1) ∧ w'.cell? ⟨w.heap.size, 2, none⟩ = some (.slice a2 nT p2) ∧ w'.cell? ⟨w.heap.size, 3, none⟩ = some (.slice a3 c.sites.length p3) ∧ w'.cell? ⟨w.heap.size, 4, none⟩ = some (.slice a4 n4 p4)) (by kernel_rfl) (s15 KD.out.drew KE.out.drew KC.out.drew) (fun hHeld => ?_)
      refine wpAnyH_take (i := 0) (oi := { dst := some 43, op := Go.Op.load 28 (Go.Operand.tmp 7), type := 28, pos := "law.go:81", after := #[], guard := none }) (v := ?_) rfl (by kernel_rfl) (by kernel_rfl) (by kernel_rfl) (fun _ _ _ h => h) (Or.inl ⟨by rfl, ?_⟩) hHeld ?_
      rotate_left
      · intro w0 hSw; (try dsimp only at hSw); go_simp; (try with_reducible rfl)
      try simp only [Act.put, List.setIfInBounds_toArray, List.set_cons_zero, List.set_cons_succ]
      refine wpAnyH_take (i := 2) (oi := { dst := some 45, op := Go.Op.move (Go.Operand.tmp 2), type := 3, pos := "law.go:81", after := #[], guard := none }) (v := ?_) rfl (by kernel_rfl) (by kernel_rfl) (by kernel_rfl) (fun _ _ _ h => h) (Or.inl ⟨by rfl, ?_⟩) hHeld ?_
      rotate_left
      · intro w0 hSw; (try dsimp only at hSw); go_simp; (try with_reducible rfl)
      try simp only [Act.put, List.setIfInBounds_toArray, List.set_cons_zero, List.set_cons_succ]
      refine wpAnyH_take (i := 3) (oi := { dst := some 46, op := Go.Op.binOp Go.BinOp.geq 3 (Go.Operand.tmp 45) (Go.Operand.const (Go.Value.int Go.IntKind.i64 0)) 3, type := 4, pos := "law.go:81", after := #[{ on := 2, ground := Go.Ground.data }], guard := none }) (v := ?_) rfl (by kernel_rfl) (by kernel_rfl) (by kernel_rfl) (fun _ _ _ h => h) (Or.inl ⟨by rfl, ?_⟩) hHeld ?_
      rotate_left
      · intro w0 hSw; (try dsimp only at hSw); go_simp; (try with_reducible rfl)
      try simp only [Act.put, List.setIfInBounds_toArray, List.set_cons_zero, List.set_cons_succ]
      try simp only [md]
      try simp only [me]
      refine wpAnyH_ready (rs := [1]) (by kernel_rfl) (by simp) ?_
      refine AllReadyH.cons (o := { dst := some 44, op := Go.Op.call { callee := Go.Callee.value (Go.Operand.func 9), args := #[Go.Operand.tmp 43], argTypes := #[28] }, type := 4, pos := "law.go:81", after := #[{ on := 0, ground := Go.Ground.data }], guard := none }) rfl (fun K' hK' => ?_) AllReadyH.nil
      go_simp
      have B9 := hid B.out.drew
      have R9 := hid KD.out.drew
      have R8 := hid KE.out.drew
      have R7 := hid KC.out.drew
      replace B := B9
      replace KD := R9
      replace KE := R8
      replace KC := R7
      clear B9 R9 R8 R7
      go_at_call 9
      refine Calls.mono (D1.out _ (by exact K0.out.drew)) ?_
      rintro e y1 ⟨q, rfl, hq, hb⟩
      obtain rfl : q = true := Q1.out q hq
      clear hq
      have K1 := hid (K0.out.drew.trans (hb.mono K0.out.drew.size))
      replace B := hid (B.out.trans (hb.mono B.out.size))
      replace KD := hid (KD.out.kept hb)
      replace KE := hid (KE.out.kept hb)
      replace KC := hid (KC.out.kept hb)
      clear hb
      have hz := hid (s15 KD.out KE.out KC.out)
      refine hK'.out _ _ hz.out (fun hHeld => ?_)
      clear hK' K'
      try simp only [Act.put, List.setIfInBounds_toArray, List.set_cons_zero, List.set_cons_succ]
      try simp only [md]
      try simp only [me]
      refine wpAnyH_take (i := 4) (oi := { dst := some 47, op := Go.Op.move (Go.Operand.tmp 46), type := 4, pos := "law.go:81", after := #[{ on := 3, ground := Go.Ground.data }, { on := 1, ground := Go.Ground.chain }], guard := none }) (v := ?_) rfl (by kernel_rfl) (by kernel_rfl) (by kernel_rfl) (fun _ _ _ h => h) (Or.inl ⟨by rfl, ?_⟩) hHeld ?_
      rotate_left
      · intro w0 hSw; (try dsimp only at hSw); go_simp; (try with_reducible rfl)
      try simp only [Act.put, List.setIfInBounds_toArray, List.set_cons_zero, List.set_cons_succ]
      try simp only [md]
      try simp only [me]
      refine wpAnyH_take (i := 5) (oi := { dst := some 48, op := Go.Op.move (Go.Operand.tmp 2), type := 3, pos := "law.go:81", after := #[{ on := 4, ground := Go.Ground.guard }], guard := some (4, true) }) (v := ?_) rfl (by kernel_rfl) (by kernel_rfl) (by kernel_rfl) (fun _ _ _ h => h) (Or.inl ⟨by rfl, ?_⟩) hHeld ?_
      rotate_left
      · intro w0 hSw; (try dsimp only at hSw); go_simp; (try with_reducible rfl)
      try simp only [Act.put, List.setIfInBounds_toArray, List.set_cons_zero, List.set_cons_succ]
      refine wpAnyH_take (i := 6) (oi := { dst := some 49, op := Go.Op.binOp Go.BinOp.leq 3 (Go.Operand.tmp 48) (Go.Operand.const (Go.Value.int Go.IntKind.i64 4096)) 3, type := 4, pos := "law.go:81", after := #[{ on := 5, ground := Go.Ground.data }, { on := 4, ground := Go.Ground.guard }], guard := some (4, true) }) (v := ?_) rfl (by kernel_rfl) (by kernel_rfl) (by kernel_rfl) (fun _ _ _ h => h) (Or.inl ⟨by rfl, ?_⟩) hHeld ?_
      rotate_left
      · intro w0 hSw; (try dsimp only at hSw); go_simp; (try with_reducible rfl)
      try simp only [Act.put, List.setIfInBounds_toArray, List.set_cons_zero, List.set_cons_succ]
      try simp only [md]
      try simp only [me]
      refine wpAnyH_take (i := 7) (oi := { dst := some 50, op := Go.Op.pick (Go.Operand.tmp 47) (Go.Operand.tmp 49) (Go.Operand.const (Go.Value.bool false)), type := 4, pos := "law.go:81", after := #[{ on := 4, ground := Go.Ground.data }, { on := 6, ground := Go.Ground.data }], guard := none }) (v := ?_) rfl (by kernel_rfl) (by kernel_rfl) (by kernel_rfl) (fun _ _ _ h => h) (Or.inl ⟨by rfl, ?_⟩) hHeld ?_
      rotate_left
      · intro w0 hSw; (try dsimp only at hSw); go_simp; (try with_reducible rfl)
      try simp only [Act.put, List.setIfInBounds_toArray, List.set_cons_zero, List.set_cons_succ]
      try simp only [md]
      try simp only [me]
      refine wpAnyH_take (i := 8) (oi := { dst := some 51, op := Go.Op.binOp Go.BinOp.eql 4 (Go.Operand.tmp 44) (Go.Operand.tmp 50) 4, type := 4, pos := "law.go:81", after := #[{ on := 1, ground := Go.Ground.data }, { on := 7, ground := Go.Ground.data }], guard := none }) (v := ?_) rfl (by kernel_rfl) (by kernel_rfl) (by kernel_rfl) (fun _ _ _ h => h) (Or.inl ⟨by rfl, ?_⟩) hHeld ?_
      rotate_left
      · intro w0 hSw; (try dsimp only at hSw); go_simp; (try with_reducible rfl)
      try simp only [Act.put, List.setIfInBounds_toArray, List.set_cons_zero, List.set_cons_succ]
      try simp only [md]
      try simp only [me]
      refine wpAnyH_take (i := 9) (oi := { dst := some 52, op := Go.Op.move (Go.Operand.tmp 51), type := 4, pos := "law.go:81", after := #[{ on := 8, ground := Go.Ground.data }, { on := 4, ground := Go.Ground.chain }], guard := none }) (v := ?_) rfl (by kernel_rfl) (by kernel_rfl) (by kernel_rfl) (fun _ _ _ h => h) (Or.inl ⟨by rfl, ?_⟩) hHeld ?_
      rotate_left
      · intro w0 hSw; (try dsimp only at hSw); go_simp; (try with_reducible rfl)
      try simp only [Act.put, List.setIfInBounds_toArray, List.set_cons_zero, List.set_cons_succ]
      refine wpAnyH_take (i := 10) (oi := { dst := some 53, op := Go.Op.load 28 (Go.Operand.tmp 8), type := 28, pos := "law.go:81", after := #[{ on := 9, ground := Go.Ground.guard }], guard := some (9, true) }) (v := ?_) rfl (by kernel_rfl) (by kernel_rfl) (by kernel_rfl) (fun _ _ _ h => h) (Or.inl ⟨by rfl, ?_⟩) hHeld ?_
      rotate_left
      · intro w0 hSw; (try dsimp only at hSw); go_simp; (try with_reducible rfl)
      try simp only [Act.put, List.setIfInBounds_toArray, List.set_cons_zero, List.set_cons_succ]
      refine wpAnyH_take (i := 12) (oi := { dst := some 55, op := Go.Op.fieldAddr 28 (Go.Operand.tmp 3) 4, type := 0, pos := "law.go:81", after := #[{ on := 9, ground := Go.Ground.guard }], guard := some (9, true) }) (v := ?_) rfl (by kernel_rfl) (by kernel_rfl) (by kernel_rfl) (fun _ _ _ h => h) (Or.inl ⟨by rfl, ?_⟩) hHeld ?_
      rotate_left
      · intro w0 hSw; (try dsimp only at hSw); go_simp; (try with_reducible rfl)
      try simp only [Act.put, List.setIfInBounds_toArray, List.set_cons_zero, List.set_cons_succ]
      refine wpAnyH_take (i := 13) (oi := { dst := some 56, op := Go.Op.load 26 (Go.Operand.tmp 55), type := 26, pos := "law.go:81", after := #[{ on := 12, ground := Go.Ground.data }, { on := 9, ground := Go.Ground.guard }], guard := some (9, true) }) (v := ?_) rfl (by kernel_rfl) (by kernel_rfl) (by kernel_rfl) (fun _ _ _ h => h) (Or.inl ⟨by rfl, ?_⟩) hHeld ?_
      rotate_left
      · intro w0 hSw; (try dsimp only at hSw); go_simp; (try with_reducible rfl)
      try simp only [Act.put, List.setIfInBounds_toArray, List.set_cons_zero, List.set_cons_succ]
      refine wpAnyH_take (i := 14) (oi := { dst := some 57, op := Go.Op.call { callee := Go.Callee.builtin Go.Builtin.len, args := #[Go.Operand.tmp 56], argTypes := #[26] }, type := 3, pos := "law.go:81", after := #[{ on := 13, ground := Go.Ground.data }, { on := 9, ground := Go.Ground.guard }], guard := some (9, true) }) (v := ?_) rfl (by kernel_rfl) (by kernel_rfl) (by kernel_rfl) (fun _ _ _ h => h) (Or.inl ⟨by rfl, ?_⟩) hHeld ?_
      rotate_left
      · intro w0 hSw; (try dsimp only at hSw); go_simp; (try with_reducible rfl)
      try simp only [Act.put, List.setIfInBounds_toArray, List.set_cons_zero, List.set_cons_succ]
      refine wpAnyH_take (i := 15) (oi := { dst := some 58, op := Go.Op.binOp Go.BinOp.eql 3 (Go.Operand.tmp 57) (Go.Operand.const (Go.Value.int Go.IntKind.i64 0)) 3, type := 4, pos := "law.go:81", after := #[{ on := 14, ground := Go.Ground.data }, { on := 9, ground := Go.Ground.guard }], guard := some (9, true) }) (v := ?_) rfl (by kernel_rfl) (by kernel_rfl) (by kernel_rfl) (fun _ _ _ h => h) (Or.inl ⟨by rfl, ?_⟩) hHeld ?_
      rotate_left
      · intro w0 hSw; (try dsimp only at hSw); go_simp; (try with_reducible rfl)
      try simp only [Act.put, List.setIfInBounds_toArray, List.set_cons_zero, List.set_cons_succ]
      try simp only [md]
      try simp only [me]
      refine wpAnyH_ready (rs := [11]) (by kernel_rfl) (by simp) ?_
      refine AllReadyH.cons (o := { dst := some 54, op := Go.Op.call { callee := Go.Callee.value (Go.Operand.func 9), args := #[Go.Operand.tmp 53], argTypes := #[28] }, type := 4, pos := "law.go:81", after := #[{ on := 10, ground := Go.Ground.data }, { on := 9, ground := Go.Ground.chain }, { on := 9, ground := Go.Ground.guard }], guard := some (9, true) }) rfl (fun K' hK' => ?_) AllReadyH.nil
      go_simp
      go_at_call 9
      refine Calls.mono (D2.out _ K1.out) ?_
      rintro e y2 ⟨q, rfl, hq, hb⟩
      obtain rfl : q = false := Q2.out q hq
      clear hq
      replace B := hid (B.out.trans (hb.mono B.out.size))
      replace KD := hid (KD.out.kept hb)
      replace KE := hid (KE.out.kept hb)
      replace KC := hid (KC.out.kept hb)
      clear hb
      have hz := hid (s15 KD.out KE.out KC.out)
      refine hK'.out _ _ hz.out (fun hHeld => ?_)
      clear hK' K'
      try simp only [Act.put, List.setIfInBounds_toArray, List.set_cons_zero, List.set_cons_succ]
      try simp only [md]
      try simp only [me]
      refine wpAnyH_take (i := 16) (oi := { dst := some 59, op := Go.Op.binOp Go.BinOp.eql 4 (Go.Operand.tmp 54) (Go.Operand.tmp 58) 4, type := 4, pos := "law.go:81", after := #[{ on := 11, ground := Go.Ground.data }, { on := 15, ground := Go.Ground.data }, { on := 9, ground := Go.Ground.guard }], guard := some (9, true) }) (v := ?_) rfl (by kernel_rfl) (by kernel_rfl) (by kernel_rfl) (fun _ _ _ h => h) (Or.inl ⟨by rfl, ?_⟩) hHeld ?_
      rotate_left
      · intro w0 hSw; (try dsimp only at hSw); go_simp; (try with_reducible rfl)
      try simp only [Act.put, List.setIfInBounds_toArray, List.set_cons_zero, List.set_cons_succ]
      try simp only [md]
      try simp only [me]
      refine wpAnyH_take (i := 17) (oi := { dst := some 60, op := Go.Op.pick (Go.Operand.tmp 52) (Go.Operand.tmp 59) (Go.Operand.const (Go.Value.bool false)), type := 4, pos := "law.go:81", after := #[{ on := 9, ground := Go.Ground.data }, { on := 16, ground := Go.Ground.data }], guard := none }) (v := ?_) rfl (by kernel_rfl) (by kernel_rfl) (by kernel_rfl) (fun _ _ _ h => h) (Or.inl ⟨by rfl, ?_⟩) hHeld ?_
      rotate_left
      · intro w0 hSw; (try dsimp only at hSw); go_simp; (try with_reducible rfl)
      try simp only [Act.put, List.setIfInBounds_toArray, List.set_cons_zero, List.set_cons_succ]
      refine wpAnyH_take (i := 18) (oi := { dst := some 6, op := Go.Op.assign (Go.Operand.tmp 60), type := 4, pos := "law.go:81", after := #[{ on := 17, ground := Go.Ground.data }, { on := 11, ground := Go.Ground.chain }, { on := 0, ground := Go.Ground.phase }, { on := 1, ground := Go.Ground.phase }, { on := 2, ground := Go.Ground.phase }, { on := 3, ground := Go.Ground.phase }, { on := 4, ground := Go.Ground.phase }, { on := 5, ground := Go.Ground.phase }, { on := 6, ground := Go.Ground.phase }, { on := 7, ground := Go.Ground.phase }, { on := 8, ground := Go.Ground.phase }, { on := 9, ground := Go.Ground.phase }, { on := 10, ground := Go.Ground.phase }, { on := 11, ground := Go.Ground.phase }, { on := 12, ground := Go.Ground.phase }, { on := 13, ground := Go.Ground.phase }, { on := 14, ground := Go.Ground.phase }, { on := 15, ground := Go.Ground.phase }, { on := 16, ground := Go.Ground.phase }, { on := 17, ground := Go.Ground.phase }], guard := none }) (v := ?_) rfl (by kernel_rfl) (by kernel_rfl) (by kernel_rfl) (fun _ _ _ h => h) (Or.inl ⟨by rfl, ?_⟩) hHeld ?_
      rotate_left
      · intro w0 hSw; (try dsimp only at hSw); go_simp; (try with_reducible rfl)
      try simp only [Act.put, List.setIfInBounds_toArray, List.set_cons_zero, List.set_cons_succ]
      refine wpAnyH_done (by kernel_rfl) ?_ _
      clear hHeld
      go_wp2
      go_ret
      first | exact ⟨rfl, B.out⟩ | exact ⟨retB (by simp), B.out⟩
    · have md : decide (0 ≤ most) = true := decide_eq_true (by omega)
      have me : decide (most ≤ 4096) = false := decide_eq_false (by omega)
      have Q1 : Hid (∀ q : Bool, (q = true ↔ P1) → q = false) := hid (fun q hq => by rw [Q1'] at hq; cases q <;> simp at hq ⊢ <;> omega)
      clear Q1'
      refine wp_region_held_drew (S := fun (w' : World) => w'.cell? ⟨db, 0, none⟩ = some (.slice a0 c.recs.length p0) ∧ w'.cell? ⟨db, 1, none⟩ = some (.slice a1 c.globs.length p1) ∧ w'.cell? ⟨db, 2, none⟩ = some (.slice (some ⟨g, 0, none⟩) nT cap) ∧ w'.cell? ⟨db, 3, none⟩ = some (.slice a3 c.sites.length p3) ∧ w'.cell? ⟨db, 4, none⟩ = some (.slice a4 n4 p4) ∧ w'.cell? ⟨eb, 0, none⟩ = some (.slice a0 c.recs.length p0) ∧ w'.cell? ⟨eb, 1, none⟩ = some (.slice a1 c.globs.length p1) ∧ w'.cell? ⟨eb, 2, none⟩ = some (.slice a2 nT p2) ∧ w'.cell? ⟨eb, 3, none⟩ = some (.slice a3 c.sites.length p3) ∧ w'.cell? ⟨eb, 4, none⟩ = some (.slice none 0 0) ∧ w'.cell? ⟨w.heap.size, 0, none⟩ = some (.slice a0 c.recs.length p0) ∧ w'.cell? ⟨w.heap.size, 1, none⟩ = some (.slice a1 c.globs.length p1) ∧ w'.cell? ⟨w.heap.size, 2, none⟩ = some (.slice a2 nT p2) ∧ w'.cell? ⟨w.heap.size, 3, none⟩ = some (.slice a3 c.sites.length p3) ∧ w'.cell? ⟨w.heap.size, 4, none⟩ = some (.slice a4 n4 p4)) (by kernel_rfl) (s15 KD.out.drew KE.out.drew KC.out.drew) (fun hHeld => ?_)
      refine wpAnyH_take (i := 0) (oi := { dst := some 43, op := Go.Op.load 28 (Go.Operand.tmp 7), type := 28, pos := "law.go:81", after := #[], guard := none }) (v := ?_) rfl (by kernel_rfl) (by kernel_rfl) (by kernel_rfl) (fun _ _ _ h => h) (Or.inl ⟨by rfl, ?_⟩) hHeld ?_
      rotate_left
      · intro w0 hSw; (try dsimp only at hSw); go_simp; (try with_reducible rfl)
      try simp only [Act.put, List.setIfInBounds_toArray, List.set_cons_zero, List.set_cons_succ]
      refine wpAnyH_take (i := 2) (oi := { dst := some 45, op := Go.Op.move (Go.Operand.tmp 2), type := 3, pos := "law.go:81", after := #[], guard := none }) (v := ?_) rfl (by kernel_rfl) (by kernel_rfl) (by kernel_rfl) (fun _ _ _ h => h) (Or.inl ⟨by rfl, ?_⟩) hHeld ?_
      rotate_left
      · intro w0 hSw; (try dsimp only at hSw); go_simp; (try with_reducible rfl)
      try simp only [Act.put, List.setIfInBounds_toArray, List.set_cons_zero, List.set_cons_succ]
      refine wpAnyH_take (i := 3) (oi := { dst := some 46, op := Go.Op.binOp Go.BinOp.geq 3 (Go.Operand.tmp 45) (Go.Operand.const (Go.Value.int Go.IntKind.i64 0)) 3, type := 4, pos := "law.go:81", after := #[{ on := 2, ground := Go.Ground.data }], guard := none }) (v := ?_) rfl (by kernel_rfl) (by kernel_rfl) (by kernel_rfl) (fun _ _ _ h => h) (Or.inl ⟨by rfl, ?_⟩) hHeld ?_
      rotate_left
      · intro w0 hSw; (try dsimp only at hSw); go_simp; (try with_reducible rfl)
      try simp only [Act.put, List.setIfInBounds_toArray, List.set_cons_zero, List.set_cons_succ]
      try simp only [md]
      try simp only [me]
      refine wpAnyH_ready (rs := [1]) (by kernel_rfl) (by simp) ?_
      refine AllReadyH.cons (o := { dst := some 44, op := Go.Op.call { callee := Go.Callee.value (Go.Operand.func 9), args := #[Go.Operand.tmp 43], argTypes := #[28] }, type := 4, pos := "law.go:81", after := #[{ on := 0, ground := Go.Ground.data }], guard := none }) rfl (fun K' hK' => ?_) AllReadyH.nil
      go_simp
      have B9 := hid B.out.drew
      have R9 := hid KD.out.drew
      have R8 := hid KE.out.drew
      have R7 := hid KC.out.drew
      replace B := B9
      replace KD := R9
      replace KE := R8
      replace KC := R7
      clear B9 R9 R8 R7
      go_at_call 9
      refine Calls.mono (D1.out _ (by exact K0.out.drew)) ?_
      rintro e y1 ⟨q, rfl, hq, hb⟩
      obtain rfl : q = false := Q1.out q hq
      clear hq
      have K1 := hid (K0.out.drew.trans (hb.mono K0.out.drew.size))
      replace B := hid (B.out.trans (hb.mono B.out.size))
      replace KD := hid (KD.out.kept hb)
      replace KE := hid (KE.out.kept hb)
      replace KC := hid (KC.out.kept hb)
      clear hb
      have hz := hid (s15 KD.out KE.out KC.out)
      refine hK'.out _ _ hz.out (fun hHeld => ?_)
      clear hK' K'
      try simp only [Act.put, List.setIfInBounds_toArray, List.set_cons_zero, List.set_cons_succ]
      try simp only [md]
      try simp only [me]
      refine wpAnyH_take (i := 4) (oi := { dst := some 47, op := Go.Op.move (Go.Operand.tmp 46), type := 4, pos := "law.go:81", after := #[{ on := 3, ground := Go.Ground.data }, { on := 1, ground := Go.Ground.chain }], guard := none }) (v := ?_) rfl (by kernel_rfl) (by kernel_rfl) (by kernel_rfl) (fun _ _ _ h => h) (Or.inl ⟨by rfl, ?_⟩) hHeld ?_
      rotate_left
      · intro w0 hSw; (try dsimp only at hSw); go_simp; (try with_reducible rfl)
      try simp only [Act.put, List.setIfInBounds_toArray, List.set_cons_zero, List.set_cons_succ]
      try simp only [md]
      try simp only [me]
      refine wpAnyH_take (i := 5) (oi := { dst := some 48, op := Go.Op.move (Go.Operand.tmp 2), type := 3, pos := "law.go:81", after := #[{ on := 4, ground := Go.Ground.guard }], guard := some (4, true) }) (v := ?_) rfl (by kernel_rfl) (by kernel_rfl) (by kernel_rfl) (fun _ _ _ h => h) (Or.inl ⟨by rfl, ?_⟩) hHeld ?_
      rotate_left
      · intro w0 hSw; (try dsimp only at hSw); go_simp; (try with_reducible rfl)
      try simp only [Act.put, List.setIfInBounds_toArray, List.set_cons_zero, List.set_cons_succ]
      refine wpAnyH_take (i := 6) (oi := { dst := some 49, op := Go.Op.binOp Go.BinOp.leq 3 (Go.Operand.tmp 48) (Go.Operand.const (Go.Value.int Go.IntKind.i64 4096)) 3, type := 4, pos := "law.go:81", after := #[{ on := 5, ground := Go.Ground.data }, { on := 4, ground := Go.Ground.guard }], guard := some (4, true) }) (v := ?_) rfl (by kernel_rfl) (by kernel_rfl) (by kernel_rfl) (fun _ _ _ h => h) (Or.inl ⟨by rfl, ?_⟩) hHeld ?_
      rotate_left
      · intro w0 hSw; (try dsimp only at hSw); go_simp; (try with_reducible rfl)
      try simp only [Act.put, List.setIfInBounds_toArray, List.set_cons_zero, List.set_cons_succ]
      try simp only [md]
      try simp only [me]
      refine wpAnyH_take (i := 7) (oi := { dst := some 50, op := Go.Op.pick (Go.Operand.tmp 47) (Go.Operand.tmp 49) (Go.Operand.const (Go.Value.bool false)), type := 4, pos := "law.go:81", after := #[{ on := 4, ground := Go.Ground.data }, { on := 6, ground := Go.Ground.data }], guard := none }) (v := ?_) rfl (by kernel_rfl) (by kernel_rfl) (by kernel_rfl) (fun _ _ _ h => h) (Or.inl ⟨by rfl, ?_⟩) hHeld ?_
      rotate_left
      · intro w0 hSw; (try dsimp only at hSw); go_simp; (try with_reducible rfl)
      try simp only [Act.put, List.setIfInBounds_toArray, List.set_cons_zero, List.set_cons_succ]
      try simp only [md]
      try simp only [me]
      refine wpAnyH_take (i := 8) (oi := { dst := some 51, op := Go.Op.binOp Go.BinOp.eql 4 (Go.Operand.tmp 44) (Go.Operand.tmp 50) 4, type := 4, pos := "law.go:81", after := #[{ on := 1, ground := Go.Ground.data }, { on := 7, ground := Go.Ground.data }], guard := none }) (v := ?_) rfl (by kernel_rfl) (by kernel_rfl) (by kernel_rfl) (fun _ _ _ h => h) (Or.inl ⟨by rfl, ?_⟩) hHeld ?_
      rotate_left
      · intro w0 hSw; (try dsimp only at hSw); go_simp; (try with_reducible rfl)
      try simp only [Act.put, List.setIfInBounds_toArray, List.set_cons_zero, List.set_cons_succ]
      try simp only [md]
      try simp only [me]
      refine wpAnyH_take (i := 9) (oi := { dst := some 52, op := Go.Op.move (Go.Operand.tmp 51), type := 4, pos := "law.go:81", after := #[{ on := 8, ground := Go.Ground.data }, { on := 4, ground := Go.Ground.chain }], guard := none }) (v := ?_) rfl (by kernel_rfl) (by kernel_rfl) (by kernel_rfl) (fun _ _ _ h => h) (Or.inl ⟨by rfl, ?_⟩) hHeld ?_
      rotate_left
      · intro w0 hSw; (try dsimp only at hSw); go_simp; (try with_reducible rfl)
      try simp only [Act.put, List.setIfInBounds_toArray, List.set_cons_zero, List.set_cons_succ]
      refine wpAnyH_take (i := 10) (oi := { dst := some 53, op := Go.Op.load 28 (Go.Operand.tmp 8), type := 28, pos := "law.go:81", after := #[{ on := 9, ground := Go.Ground.guard }], guard := some (9, true) }) (v := ?_) rfl (by kernel_rfl) (by kernel_rfl) (by kernel_rfl) (fun _ _ _ h => h) (Or.inl ⟨by rfl, ?_⟩) hHeld ?_
      rotate_left
      · intro w0 hSw; (try dsimp only at hSw); go_simp; (try with_reducible rfl)
      try simp only [Act.put, List.setIfInBounds_toArray, List.set_cons_zero, List.set_cons_succ]
      refine wpAnyH_take (i := 12) (oi := { dst := some 55, op := Go.Op.fieldAddr 28 (Go.Operand.tmp 3) 4, type := 0, pos := "law.go:81", after := #[{ on := 9, ground := Go.Ground.guard }], guard := some (9, true) }) (v := ?_) rfl (by kernel_rfl) (by kernel_rfl) (by kernel_rfl) (fun _ _ _ h => h) (Or.inl ⟨by rfl, ?_⟩) hHeld ?_
      rotate_left
      · intro w0 hSw; (try dsimp only at hSw); go_simp; (try with_reducible rfl)
      try simp only [Act.put, List.setIfInBounds_toArray, List.set_cons_zero, List.set_cons_succ]
      refine wpAnyH_take (i := 13) (oi := { dst := some 56, op := Go.Op.load 26 (Go.Operand.tmp 55), type := 26, pos := "law.go:81", after := #[{ on := 12, ground := Go.Ground.data }, { on := 9, ground := Go.Ground.guard }], guard := some (9, true) }) (v := ?_) rfl (by kernel_rfl) (by kernel_rfl) (by kernel_rfl) (fun _ _ _ h => h) (Or.inl ⟨by rfl, ?_⟩) hHeld ?_
      rotate_left
      · intro w0 hSw; (try dsimp only at hSw); go_simp; (try with_reducible rfl)
      try simp only [Act.put, List.setIfInBounds_toArray, List.set_cons_zero, List.set_cons_succ]
      refine wpAnyH_take (i := 14) (oi := { dst := some 57, op := Go.Op.call { callee := Go.Callee.builtin Go.Builtin.len, args := #[Go.Operand.tmp 56], argTypes := #[26] }, type := 3, pos := "law.go:81", after := #[{ on := 13, ground := Go.Ground.data }, { on := 9, ground := Go.Ground.guard }], guard := some (9, true) }) (v := ?_) rfl (by kernel_rfl) (by kernel_rfl) (by kernel_rfl) (fun _ _ _ h => h) (Or.inl ⟨by rfl, ?_⟩) hHeld ?_
      rotate_left
      · intro w0 hSw; (try dsimp only at hSw); go_simp; (try with_reducible rfl)
      try simp only [Act.put, List.setIfInBounds_toArray, List.set_cons_zero, List.set_cons_succ]
      refine wpAnyH_take (i := 15) (oi := { dst := some 58, op := Go.Op.binOp Go.BinOp.eql 3 (Go.Operand.tmp 57) (Go.Operand.const (Go.Value.int Go.IntKind.i64 0)) 3, type := 4, pos := "law.go:81", after := #[{ on := 14, ground := Go.Ground.data }, { on := 9, ground := Go.Ground.guard }], guard := some (9, true) }) (v := ?_) rfl (by kernel_rfl) (by kernel_rfl) (by kernel_rfl) (fun _ _ _ h => h) (Or.inl ⟨by rfl, ?_⟩) hHeld ?_
      rotate_left
      · intro w0 hSw; (try dsimp only at hSw); go_simp; (try with_reducible rfl)
      try simp only [Act.put, List.setIfInBounds_toArray, List.set_cons_zero, List.set_cons_succ]
      try simp only [md]
      try simp only [me]
      refine wpAnyH_ready (rs := [11]) (by kernel_rfl) (by simp) ?_
      refine AllReadyH.cons (o := { dst := some 54, op := Go.Op.call { callee := Go.Callee.value (Go.Operand.func 9), args := #[Go.Operand.tmp 53], argTypes := #[28] }, type := 4, pos := "law.go:81", after := #[{ on := 10, ground := Go.Ground.data }, { on := 9, ground := Go.Ground.chain }, { on := 9, ground := Go.Ground.guard }], guard := some (9, true) }) rfl (fun K' hK' => ?_) AllReadyH.nil
      go_simp
      go_at_call 9
      refine Calls.mono (D2.out _ K1.out) ?_
      rintro e y2 ⟨q, rfl, hq, hb⟩
      obtain rfl : q = false := Q2.out q hq
      clear hq
      replace B := hid (B.out.trans (hb.mono B.out.size))
      replace KD := hid (KD.out.kept hb)
      replace KE := hid (KE.out.kept hb)
      replace KC := hid (KC.out.kept hb)
      clear hb
      have hz := hid (s15 KD.out KE.out KC.out)
      refine hK'.out _ _ hz.out (fun hHeld => ?_)
      clear hK' K'
      try simp only [Act.put, List.setIfInBounds_toArray, List.set_cons_zero, List.set_cons_succ]
      try simp only [md]
      try simp only [me]
      refine wpAnyH_take (i := 16) (oi := { dst := some 59, op := Go.Op.binOp Go.BinOp.eql 4 (Go.Operand.tmp 54) (Go.Operand.tmp 58) 4, type := 4, pos := "law.go:81", after := #[{ on := 11, ground := Go.Ground.data }, { on := 15, ground := Go.Ground.data }, { on := 9, ground := Go.Ground.guard }], guard := some (9, true) }) (v := ?_) rfl (by kernel_rfl) (by kernel_rfl) (by kernel_rfl) (fun _ _ _ h => h) (Or.inl ⟨by rfl, ?_⟩) hHeld ?_
      rotate_left
      · intro w0 hSw; (try dsimp only at hSw); go_simp; (try with_reducible rfl)
      try simp only [Act.put, List.setIfInBounds_toArray, List.set_cons_zero, List.set_cons_succ]
      try simp only [md]
      try simp only [me]
      refine wpAnyH_take (i := 17) (oi := { dst := some 60, op := Go.Op.pick (Go.Operand.tmp 52) (Go.Operand.tmp 59) (Go.Operand.const (Go.Value.bool false)), type := 4, pos := "law.go:81", after := #[{ on := 9, ground := Go.Ground.data }, { on := 16, ground := Go.Ground.data }], guard := none }) (v := ?_) rfl (by kernel_rfl) (by kernel_rfl) (by kernel_rfl) (fun _ _ _ h => h) (Or.inl ⟨by rfl, ?_⟩) hHeld ?_
      rotate_left
      · intro w0 hSw; (try dsimp only at hSw); go_simp; (try with_reducible rfl)
      try simp only [Act.put, List.setIfInBounds_toArray, List.set_cons_zero, List.set_cons_succ]
      refine wpAnyH_take (i := 18) (oi := { dst := some 6, op := Go.Op.assign (Go.Operand.tmp 60), type := 4, pos := "law.go:81", after := #[{ on := 17, ground := Go.Ground.data }, { on := 11, ground := Go.Ground.chain }, { on := 0, ground := Go.Ground.phase }, { on := 1, ground := Go.Ground.phase }, { on := 2, ground := Go.Ground.phase }, { on := 3, ground := Go.Ground.phase }, { on := 4, ground := Go.Ground.phase }, { on := 5, ground := Go.Ground.phase }, { on := 6, ground := Go.Ground.phase }, { on := 7, ground := Go.Ground.phase }, { on := 8, ground := Go.Ground.phase }, { on := 9, ground := Go.Ground.phase }, { on := 10, ground := Go.Ground.phase }, { on := 11, ground := Go.Ground.phase }, { on := 12, ground := Go.Ground.phase }, { on := 13, ground := Go.Ground.phase }, { on := 14, ground := Go.Ground.phase }, { on := 15, ground := Go.Ground.phase }, { on := 16, ground := Go.Ground.phase }, { on := 17, ground := Go.Ground.phase }], guard := none }) (v := ?_) rfl (by kernel_rfl) (by kernel_rfl) (by kernel_rfl) (fun _ _ _ h => h) (Or.inl ⟨by rfl, ?_⟩) hHeld ?_
      rotate_left
      · intro w0 hSw; (try dsimp only at hSw); go_simp; (try with_reducible rfl)
      try simp only [Act.put, List.setIfInBounds_toArray, List.set_cons_zero, List.set_cons_succ]
      refine wpAnyH_done (by kernel_rfl) ?_ _
      clear hHeld
      go_wp2
      go_ret
      first | exact ⟨rfl, B.out⟩ | exact ⟨retB (by simp), B.out⟩
end Go.Proofs.Ytjjfhjelkioehaa
