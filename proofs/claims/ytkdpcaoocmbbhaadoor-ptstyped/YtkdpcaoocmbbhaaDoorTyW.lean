/- The walk of PtsTyped. -/
import Derived.Test.YtkdpcaoocmbbhaaDoorKd
import Derived.Test.YtkdpcaoocmbbhaaDoorPn
import Derived.Test.YtkdpcaoocmbbhaaDoorM11
import Derived.Test.YtkdpcaoocmbbhaaDoorM07
import Derived.Test.YtkdpcaoocmbbhaaDoorM12
import Derived.Test.YtkdpcaoocmbbhaaDoorM09
import Derived.Test.YtkdpcaoocmbbhaaDoorM13
namespace Go.Proofs.YtkdpcaoocmbbhaaDoor
open Go.ChangeShapes Go.WideShapes Go.ChangeAt Go.RowKit Go.Deep
set_option linter.unusedVariables false
set_option linter.unusedSimpArgs false

/-- While PtsTyped looks. -/
structure TdW (w : World) (c : Cd) (l : List Value) (sb : Nat) (v0 v1 v2 : Value) (R : List (List Nat)) (V : Nat → Value) (B : Nat → Nat) (X : World) : Prop where
  b0 : VarAt X w.heap.size l 28
  bs : VarAt X sb [v0, v1, v2] 35
  sets : ∃ base top, SetsM X base top c.threads.length c.sites.length v0 v1 v2 R V B
  bel : Below w.heap.size w X
theorem TdW.kept {w X X' : World} {c : Cd} {l : List Value} {sb : Nat} {v0 v1 v2 : Value} {R : List (List Nat)} {V : Nat → Value} {B : Nat → Nat} (h : TdW w c l sb v0 v1 v2 R V B X) (k : Below X.heap.size X X') : TdW w c l sb v0 v1 v2 R V B X' := by
  obtain ⟨base, top, hs⟩ := h.sets
  exact ⟨h.b0.kept k, h.bs.kept k, ⟨base, top, hs.kept k⟩, h.bel.trans (k.mono h.bel.size)⟩
/-- kinds of one row of sets. -/
theorem kinds_row {c : Cd} {W : World} {base top : Nat} {v0 v1 v2 : Value} {R : List (List Nat)} {V : Nat → Value} {B : Nat → Nat} (hc : c.okW W) (hS : c.sites.length ≤ 64) (hs : SetsM W base top c.threads.length c.sites.length v0 v1 v2 R V B) (hU : AllU R) {r : Nat} {a : Option Addr} {cp : Nat} (hv : V r = .slice a (R.getD r []).length cp)
    (ls : List Loc) (lv : Value) (hl : Locs W lv ls) (hl1 : ls.length ≤ 1000) (hlen : (R.getD r []).length = ls.length) (ht : ∀ (i : Nat) (l : Loc), ls[i]? = some l → TypedS c l (gR R r i)) :
    Calls Tryd.prog 16 #[.agg c.cells.toArray, lv, .slice a (R.getD r []).length cp] W fun e W' => e = .returned (.bool true) ∧ Below W.heap.size W W' :=
  kinds_any hc hS ls lv hl hl1 a cp (B r) (R.getD r []) (fun j hj => by
    obtain ⟨cc, e2, k1, -, -, k4⟩ := hs.at (r := r) hj
    rw [hv] at e2
    obtain ⟨rfl, -, rfl⟩ := Value.slice.inj e2
    exact ⟨rfl, k1.lt, k4⟩) (fun j => hU r j) hlen ht

set_option maxRecDepth 100000 in
set_option maxHeartbeats 4000000 in
theorem walkTyped (v0 : Value) (c : Cd) (w : World) (w0 : IsCd w v0 c) (hTab : Tab w) :
    Calls Tryd.prog 5 #[v0] w fun e w' => e = .returned (.bool true) ∧ Below w.heap.size w w' := by
  obtain ⟨rfl, hc⟩ := w0
  obtain ⟨a0, p0, a1, p1, a2, p2, a3, p3, a4, p4, e0, e1, e2, e3, e4⟩ := cd_open hc
  have A9 : ∀ W (h : Below w.heap.size w W), Calls Tryd.prog 9 #[.agg #[c.rv, c.gv, c.tv, c.ev, c.cv]] W fun e w' => (e = .returned (.bool true) ∨ SmallP c ∧ e = .returned (.bool false)) ∧ Below W.heap.size W w' := fun W h => (great_any c W (Cd.kept hc h)).mono (fun e w' k => by
    obtain ⟨q, h1, h2, h3⟩ := k
    refine ⟨?_, h3⟩
    cases q
    · exact .inr ⟨h2 rfl, h1⟩
    · exact .inl h1)
  have A13 : ∀ (s : SmallP c) W (h : Below w.heap.size w W), Calls Tryd.prog 13 #[.agg #[c.rv, c.gv, c.tv, c.ev, c.cv]] W fun e w' => (GoodP c ∧ e = .returned (.bool true) ∨ e = .returned (.bool false)) ∧ Below W.heap.size W w' := fun s W h => (rgood_says c W (Cd.kept hc h) s).mono (fun e w' k => by
    obtain ⟨q, h1, h2, h3⟩ := k
    refine ⟨?_, h3⟩
    cases q
    · exact .inr h1
    · exact .inl ⟨h2.1 rfl, h1⟩)
  have A15 : ∀ (g : GoodP c) W (h : Below w.heap.size w W), Calls Tryd.prog 15 #[.agg #[c.rv, c.gv, c.tv, c.ev, c.cv]] W fun e w' => (PlainP c ∧ e = .returned (.bool true) ∨ e = .returned (.bool false)) ∧ Below W.heap.size W w' := fun g W h => (plain_any (Cd.kept hc h) g).mono (fun e w' k => by
    obtain ⟨q, h1, h2, h3⟩ := k
    refine ⟨?_, h3⟩
    cases q
    · exact .inr h1
    · exact .inl ⟨h2 rfl, h1⟩)
  have A11 : ∀ (s : SmallP c) W (h : Below w.heap.size w W), Calls Tryd.prog 11 #[.agg #[c.rv, c.gv, c.tv, c.ev, c.cv]] W (SolveP c W) := fun s W h => solve_any c W (Cd.kept hc h) s (hTab.kept h)
  have K0 := fun {sb : Nat} {v0 v1 v2 : Value} {R : List (List Nat)} {V : Nat → Value} {B : Nat → Nat} {l : List Value} (hS : c.sites.length ≤ 64) (hU : AllU R) (r : Nat) (a : Option Addr) (cp : Nat) (hv : V r = .slice a (R.getD r []).length cp) (ls : List Loc) (lv : Value) (hl : Locs w lv ls) (hl1 : ls.length ≤ 1000) (hlen : (R.getD r []).length = ls.length) (ht : ∀ (i : Nat) (l : Loc), ls[i]? = some l → TypedS c l (gR R r i)) (Y : World) (h : TdW w c l sb v0 v1 v2 R V B Y) => (by
    obtain ⟨base, top, hs⟩ := h.sets
    exact kinds_row (Cd.kept hc h.bel) hS hs hU hv ls lv (Locs.kept hl h.bel) hl1 hlen ht : Calls Tryd.prog 16 #[.agg #[c.rv, c.gv, c.tv, c.ev, c.cv], lv, .slice a (R.getD r []).length cp] Y fun e W' => e = .returned (.bool true) ∧ Below Y.heap.size Y W')
  have HC := hid hc
  have F1 := hc.2.1
  rw [e1] at F1
  obtain ⟨ta, tp, te, htr⟩ := RowOf.at hc.2.2.1
  rw [e2] at te
  obtain ⟨rfl, -, rfl⟩ := Value.slice.inj te
  obtain ⟨ea, ep, ee, her⟩ := RowOf.at hc.2.2.2.1
  rw [e3] at ee
  obtain ⟨rfl, -, rfl⟩ := Value.slice.inj ee
  obtain ⟨ra, rp, re, hrr⟩ := RowOf.at hc.1
  rw [e0] at re
  obtain ⟨rfl, -, rfl⟩ := Value.slice.inj re
  rw [e0, e1, e2, e3, e4] at A9 A13 A15 A11 K0
  rw [e0, e1, e2, e3, e4]
  have F1' := hid F1
  have HTR := hid htr
  have HER := hid her
  have HRR := hid hrr
  replace A9 := hid A9
  replace A13 := hid A13
  replace A15 := hid A15
  replace A11 := hid A11
  have CA := hid (fun W (h : Below w.heap.size w W) => alive_any W (hTab.kept h))
  have B := hid ((Below.refl w.heap.size w).alloc (Nat.le_refl _) (.cells #[.slice a0 c.recs.length p0, .slice a1 c.globs.length p1, .slice a2 c.threads.length p2, .slice a3 c.sites.length p3, .slice a4 c.secs.length p4] 28))
  have KC := hid (VarAt.new w [.slice a0 c.recs.length p0, .slice a1 c.globs.length p1, .slice a2 c.threads.length p2, .slice a3 c.sites.length p3, .slice a4 c.secs.length p4] 28)
  obtain ⟨y0, y1, y2, y3, y4⟩ := cells5 KC.out
  clear hc e0 e1 e2 e3 e4 te ee re htr her hrr F1
  go_enter Tryd.func5, Tryd.ntmps5
  go_upto_region 5 with (first
    | (go_at_call 8; refine Calls.mono (CA.out _ B.out) ?_; rintro e w1 ⟨rfl, hb⟩; replace B := hid (B.out.trans (hb.mono B.out.size)); replace KC := hid (KC.out.kept hb); clear hb CA y0 y1 y2 y3 y4; obtain ⟨y0, y1, y2, y3, y4⟩ := cells5 KC.out)
    | (go_at_call 9; refine Calls.mono (A9.out _ B.out) ?_; rintro e w2 ⟨(rfl | ⟨hq, rfl⟩), hb⟩ <;> (replace B := hid (B.out.trans (hb.mono B.out.size)); replace KC := hid (KC.out.kept hb); clear hb A9 y0 y1 y2 y3 y4; obtain ⟨y0, y1, y2, y3, y4⟩ := cells5 KC.out; try replace hq := hid hq))
    | (go_at_call 13; refine Calls.mono (A13.out hq.out _ B.out) ?_; rintro e w3 ⟨(⟨hg, rfl⟩ | rfl), hb⟩ <;> (replace B := hid (B.out.trans (hb.mono B.out.size)); replace KC := hid (KC.out.kept hb); clear hb A13 y0 y1 y2 y3 y4; obtain ⟨y0, y1, y2, y3, y4⟩ := cells5 KC.out; try replace hg := hid hg))
    | (go_at_call 15; refine Calls.mono (A15.out hg.out _ B.out) ?_; rintro e w3 ⟨(⟨hp, rfl⟩ | rfl), hb⟩ <;> (replace B := hid (B.out.trans (hb.mono B.out.size)); replace KC := hid (KC.out.kept hb); clear hb A15 y0 y1 y2 y3 y4; obtain ⟨y0, y1, y2, y3, y4⟩ := cells5 KC.out; try replace hp := hid hp)))
  any_goals
    go_ret
    exact ⟨rfl, B.out⟩
  rename_i K hK
  replace hK := hid hK
  have G := hid hg.out
  have DS2 := hid (A11.out hq.out)
  clear A11 hq hg
  go_wp2_with (first
    | (go_at_call 11; refine Calls.mono (DS2.out _ B.out) ?_; rintro _ y ⟨v0, v1, v2, rfl, bl, hs, -⟩; obtain ⟨R, V, BB, sm, le⟩ := hs G.out; have SM := hid sm; have LE := hid le; replace B := hid (B.out.trans (bl.mono B.out.size)); replace KC := hid (KC.out.kept bl); have VS := hid (VarAt.new y [.slice none 0 0, .slice none 0 0, .slice none 0 0] 35); obtain ⟨s0, m0, q0, s1, m1, q1, s2, m2, q2, rfl, rfl, rfl⟩ := sm.ones; clear sm le bl hs DS2 y0 y1 y2 y3 y4)
    | (refine wl_store_box 35 _ _ rfl rfl _ rfl [.slice s0 m0 q0, .slice s1 m1 q1, .slice s2 m2 q2] rfl size35 (ones3 rfl rfl rfl) _ _ VS.out rfl rfl ?_; intro z hv ht))
  try simp only [Act.put]
  refine hK.out _ _ ?_
  clear hK K
  obtain ⟨oa0, oc0, eo0, ho0⟩ := SM.out.o0
  obtain ⟨rfl, rfl, rfl⟩ := Value.slice.inj eo0
  obtain ⟨oa2, oc2, eo2, ho2⟩ := SM.out.o2
  obtain ⟨rfl, rfl, rfl⟩ := Value.slice.inj eo2
  obtain ⟨ga, gc, eg⟩ := SM.out.form (r := c.threads.length) (by rw [SM.out.len]; omega)
  have eg1 := SM.out.one.trans eg
  obtain ⟨rfl, rfl, rfl⟩ := Value.slice.inj eg1
  have ba := (Below.refl y.heap.size y).alloc (Nat.le_refl _) (.cells #[.slice none 0 0, .slice none 0 0, .slice none 0 0] 35)
  have kl := KC.out.lt
  have TD := hid (show TdW w c [.slice a0 c.recs.length p0, .slice a1 c.globs.length p1, .slice a2 c.threads.length p2, .slice a3 c.sites.length p3, .slice a4 c.secs.length p4] y.heap.size (.slice s0 c.threads.length q0) (.slice s1 (R.getD c.threads.length []).length q1) (.slice s2 c.sites.length q2) R V BB z from ⟨ht.var (KC.out.kept ba) (by omega), hv, ⟨_, _, (SM.out.kept ba).touch ht.t1 (fun b h1 h2 e => by omega)⟩, ht.below (B.out.trans (ba.mono B.out.size)) B.out.size⟩)
  have VR := hid (fun r (hr : r < R.length) => SM.out.form hr)
  have RL := hid SM.out.len
  have O0 := hid (fun i (hi : i < c.threads.length) Y (h : TdW w c [.slice a0 c.recs.length p0, .slice a1 c.globs.length p1, .slice a2 c.threads.length p2, .slice a3 c.sites.length p3, .slice a4 c.secs.length p4] y.heap.size (.slice s0 c.threads.length q0) (.slice s1 (R.getD c.threads.length []).length q1) (.slice s2 c.sites.length q2) R V BB Y) => (by
    obtain ⟨b1, t1, hs⟩ := h.sets
    obtain ⟨a, cc, e, ho⟩ := hs.o0
    obtain ⟨rfl, -, rfl⟩ := Value.slice.inj e
    obtain ⟨ob, oo, e1, -, -, -, -, g5⟩ := ho i hi
    exact ⟨ob, oo, e1, g5⟩ : ∃ ob oo, s0 = some ⟨ob, oo, none⟩ ∧ Y.cell? ⟨ob, oo + i, none⟩ = some (V i)))
  have O2 := hid (fun k (hk : k < c.sites.length) Y (h : TdW w c [.slice a0 c.recs.length p0, .slice a1 c.globs.length p1, .slice a2 c.threads.length p2, .slice a3 c.sites.length p3, .slice a4 c.secs.length p4] y.heap.size (.slice s0 c.threads.length q0) (.slice s1 (R.getD c.threads.length []).length q1) (.slice s2 c.sites.length q2) R V BB Y) => (by
    obtain ⟨b1, t1, hs⟩ := h.sets
    obtain ⟨a, cc, e, ho⟩ := hs.o2
    obtain ⟨rfl, -, rfl⟩ := Value.slice.inj e
    obtain ⟨ob, oo, e1, -, -, -, -, g5⟩ := ho k hk
    exact ⟨ob, oo, e1, g5⟩ : ∃ ob oo, s2 = some ⟨ob, oo, none⟩ ∧ Y.cell? ⟨ob, oo + k, none⟩ = some (V (c.threads.length + 1 + k))))
  have hS64 : c.sites.length ≤ 64 := by have := G.out.l4; omega
  have UA := LE.out.1.allU G.out
  have LT := hid (least_typed G.out hp.out LE.out)
  have SH := hid LE.out.1.1
  have hGl : (R.getD c.threads.length []).length = c.globs.length := by rw [row_len, SH.out, shape_globs]
  have KK := hid (fun r a cp hv ls lv hl hl1 hlen ht Y h => K0 (sb := y.heap.size) (v0 := .slice s0 c.threads.length q0) (v1 := .slice s1 (R.getD c.threads.length []).length q1) (v2 := .slice s2 c.sites.length q2) (R := R) (V := V) (B := BB) (l := [.slice a0 c.recs.length p0, .slice a1 c.globs.length p1, .slice a2 c.threads.length p2, .slice a3 c.sites.length p3, .slice a4 c.secs.length p4]) hS64 UA r a cp hv ls lv hl hl1 hlen ht Y h)
  clear ba kl hv ht VS SM B KC K0 ho0 ho2 eo0 eo2 eg1 LE hS64 UA
  have CKG := hid (fun Y h => KK.out c.threads.length s1 q1 eg c.globs (.slice a1 c.globs.length p1) F1'.out (by have := G.out.l2; omega) hGl (fun j l hl => typed_of (by
    have := LT.out c.threads.length j
    rw [kind_globs, show c.globs.getD j Loc.z = l by simp [List.getD, hl]] at this
    exact this)) Y h)
  have RLG := hid hGl
  clear eg
  generalize y.heap.size = sb at *
  generalize hgl : (R.getD c.threads.length []).length = gl at *
  subst hGl
  clear hgl RLG
  have hnT := G.out.l3
  have hnS := G.out.l4
  obtain ⟨y0, y1, y2, y3, y4⟩ := cells5 TD.out.b0
  have f0' := TD.out.bs.cell 0 rfl
  have f1' := TD.out.bs.cell 1 rfl
  have f2' := TD.out.bs.cell 2 rfl
  go_wp2_with fail
  go_loopw [52] (fun t wr => ∃ i : Nat, t = .int .i64 i ∧ i ≤ c.threads.length ∧ Hid (TdW w c [.slice a0 c.recs.length p0, .slice a1 c.globs.length p1, .slice a2 c.threads.length p2, .slice a3 c.sites.length p3, .slice a4 c.secs.length p4] sb (.slice s0 c.threads.length q0) (.slice s1 c.globs.length q1) (.slice s2 c.sites.length q2) R V BB wr)) (fun t _ => c.threads.length - (intOf t).toNat)
  case atStart => exact ⟨0, rfl, by omega, TD⟩
  case round =>
    clear y0 y1 y2 y3 y4 f0' f1' f2' TD
    obtain ⟨i, rfl, hi, TD⟩ := hrel
    obtain ⟨wo, rfl⟩ : ∃ wo : World, wo = wr := ⟨wr, rfl⟩
    by_cases hin : i < c.threads.length
    · obtain ⟨b, thb, toff, hb, rfl, tlt, tra, tok⟩ := HTR.out i hin
      obtain ⟨ac, pc, ec, -⟩ := RowOf.at tok.2.2
      obtain ⟨sa, sp, es, -⟩ := locs_at tok.2.1
      have hlv := tok.2.1
      rw [es] at hlv
      have c0 : w.cell? ⟨thb, toff + i * 3, none⟩ = some b.sv := tra 0 _ rfl
      have c1 : w.cell? ⟨thb, toff + i * 3 + 1, none⟩ = some b.cv := tra 1 _ rfl
      have c2 : w.cell? ⟨thb, toff + i * 3 + 2, none⟩ = some (.int .i64 b.most) := tra 2 _ rfl
      rw [es] at c0
      rw [ec] at c1
      rw [← TD.out.bel.cell tlt] at c0 c1 c2
      obtain ⟨ob, oo, rfl, -⟩ := O0.out i hin _ TD.out
      obtain ⟨a, cp, ea⟩ := VR.out i (by rw [RL.out]; omega)
      have RC := hid (fun Y (h : TdW w c [.slice a0 c.recs.length p0, .slice a1 c.globs.length p1, .slice (some ⟨thb, toff, none⟩) c.threads.length p2, .slice a3 c.sites.length p3, .slice a4 c.secs.length p4] sb (.slice (some ⟨ob, oo, none⟩) c.threads.length q0) (.slice s1 c.globs.length q1) (.slice s2 c.sites.length q2) R V BB Y) => (by
        obtain ⟨ob', oo', e, k⟩ := O0.out i hin Y h
        cases e
        rw [ea] at k
        exact k : Y.cell? ⟨ob, oo + i, none⟩ = some (.slice a (R.getD i []).length cp)))
      have CK := hid (fun Y (h : TdW w c [.slice a0 c.recs.length p0, .slice a1 c.globs.length p1, .slice (some ⟨thb, toff, none⟩) c.threads.length p2, .slice a3 c.sites.length p3, .slice a4 c.secs.length p4] sb (.slice (some ⟨ob, oo, none⟩) c.threads.length q0) (.slice s1 c.globs.length q1) (.slice s2 c.sites.length q2) R V BB Y) => KK.out i a cp ea b.slots (.slice sa b.slots.length sp) hlv (by have := (G.out.ths i b hb).1; omega) (by rw [row_len, SH.out, shape_slots c hb]) (fun j l hl => typed_of (by
        have := LT.out i j
        rw [kind_slots hb, show b.slots.getD j Loc.z = l by simp [List.getD, hl]] at this
        exact this)) Y h)
      have BK := (Below.refl wo.heap.size wo).alloc (Nat.le_refl _) (.cells #[.slice sa b.slots.length sp, .slice ac b.code.length pc, .int .i64 b.most] 40)
      have VB := hid (VarAt.new wo [.slice sa b.slots.length sp, .slice ac b.code.length pc, .int .i64 b.most] 40)
      replace TD := hid (TD.out.kept BK)
      generalize hbb : wo.heap.size = bb at *
      have hiI : (i : Int) < (c.threads.length : Int) := by omega
      clear tra tok es ec BK hb hlv ea KK CKG O0 O2 VR LT SH RL HRR HER F1'
      go_wp2_with fail
      replace TD := hid (TD.out.kept (Below.refl _ _).drew)
      replace VB := hid (VB.out.kept (Below.refl _ _).drew)
      refine wp_region_held_drew (S := fun (w' : World) => w'.cell? ⟨w.heap.size, 0, none⟩ = some (.slice a0 c.recs.length p0) ∧ w'.cell? ⟨w.heap.size, 1, none⟩ = some (.slice a1 c.globs.length p1) ∧ w'.cell? ⟨w.heap.size, 2, none⟩ = some (.slice (some ⟨thb, toff, none⟩) c.threads.length p2) ∧ w'.cell? ⟨w.heap.size, 3, none⟩ = some (.slice a3 c.sites.length p3) ∧ w'.cell? ⟨w.heap.size, 4, none⟩ = some (.slice a4 c.secs.length p4) ∧ w'.cell? ⟨bb, 0, none⟩ = some (.slice sa b.slots.length sp) ∧ w'.cell? ⟨sb, 0, none⟩ = some (.slice (some ⟨ob, oo, none⟩) c.threads.length q0) ∧ w'.cell? ⟨ob, oo + i, none⟩ = some (.slice a (R.getD i []).length cp)) (by kernel_rfl) (⟨TD.out.b0.cell 0 rfl, TD.out.b0.cell 1 rfl, TD.out.b0.cell 2 rfl, TD.out.b0.cell 3 rfl, TD.out.b0.cell 4 rfl, VB.out.cell 0 rfl, TD.out.bs.cell 0 rfl, RC.out _ TD.out⟩) (fun hHeld => ?_)
      refine wpAnyH_take (i := 0) (oi := { dst := some 57, op := Go.Op.load 28 (Go.Operand.tmp 1), type := 28, pos := "law.go:57", after := #[], guard := none }) (v := ?_) rfl (by kernel_rfl) (by kernel_rfl) (by kernel_rfl) (fun _ _ _ h => h) (Or.inl ⟨by rfl, ?_⟩) hHeld ?_
      rotate_left
      · intro w0 hSw; (try dsimp only at hSw); go_simp; (try with_reducible rfl)
      try simp only [Act.put, List.setIfInBounds_toArray, List.set_cons_zero, List.set_cons_succ]
      refine wpAnyH_take (i := 1) (oi := { dst := some 58, op := Go.Op.fieldAddr 40 (Go.Operand.tmp 5) 0, type := 0, pos := "law.go:57", after := #[], guard := none }) (v := ?_) rfl (by kernel_rfl) (by kernel_rfl) (by kernel_rfl) (fun _ _ _ h => h) (Or.inl ⟨by rfl, ?_⟩) hHeld ?_
      rotate_left
      · intro w0 hSw; (try dsimp only at hSw); go_simp; (try with_reducible rfl)
      try simp only [Act.put, List.setIfInBounds_toArray, List.set_cons_zero, List.set_cons_succ]
      refine wpAnyH_take (i := 2) (oi := { dst := some 59, op := Go.Op.load 23 (Go.Operand.tmp 58), type := 23, pos := "law.go:57", after := #[{ on := 1, ground := Go.Ground.data }], guard := none }) (v := ?_) rfl (by kernel_rfl) (by kernel_rfl) (by kernel_rfl) (fun _ _ _ h => h) (Or.inl ⟨by rfl, ?_⟩) hHeld ?_
      rotate_left
      · intro w0 hSw; (try dsimp only at hSw); go_simp; (try with_reducible rfl)
      try simp only [Act.put, List.setIfInBounds_toArray, List.set_cons_zero, List.set_cons_succ]
      refine wpAnyH_take (i := 3) (oi := { dst := some 60, op := Go.Op.fieldAddr 35 (Go.Operand.tmp 3) 0, type := 0, pos := "law.go:57", after := #[], guard := none }) (v := ?_) rfl (by kernel_rfl) (by kernel_rfl) (by kernel_rfl) (fun _ _ _ h => h) (Or.inl ⟨by rfl, ?_⟩) hHeld ?_
      rotate_left
      · intro w0 hSw; (try dsimp only at hSw); go_simp; (try with_reducible rfl)
      try simp only [Act.put, List.setIfInBounds_toArray, List.set_cons_zero, List.set_cons_succ]
      refine wpAnyH_take (i := 4) (oi := { dst := some 61, op := Go.Op.load 32 (Go.Operand.tmp 60), type := 32, pos := "law.go:57", after := #[{ on := 3, ground := Go.Ground.data }], guard := none }) (v := ?_) rfl (by kernel_rfl) (by kernel_rfl) (by kernel_rfl) (fun _ _ _ h => h) (Or.inl ⟨by rfl, ?_⟩) hHeld ?_
      rotate_left
      · intro w0 hSw; (try dsimp only at hSw); go_simp; (try with_reducible rfl)
      try simp only [Act.put, List.setIfInBounds_toArray, List.set_cons_zero, List.set_cons_succ]
      refine wpAnyH_take (i := 5) (oi := { dst := some 62, op := Go.Op.move (Go.Operand.tmp 4), type := 3, pos := "law.go:57", after := #[], guard := none }) (v := ?_) rfl (by kernel_rfl) (by kernel_rfl) (by kernel_rfl) (fun _ _ _ h => h) (Or.inl ⟨by rfl, ?_⟩) hHeld ?_
      rotate_left
      · intro w0 hSw; (try dsimp only at hSw); go_simp; (try with_reducible rfl)
      try simp only [Act.put, List.setIfInBounds_toArray, List.set_cons_zero, List.set_cons_succ]
      refine wpAnyH_take (i := 6) (oi := { dst := some 63, op := Go.Op.indexAddr 32 (Go.Operand.tmp 61) (Go.Operand.tmp 62), type := 0, pos := "law.go:57", after := #[{ on := 4, ground := Go.Ground.data }, { on := 5, ground := Go.Ground.data }], guard := none }) (v := ?_) rfl (by kernel_rfl) (by kernel_rfl) (by kernel_rfl) (fun _ _ _ h => h) (Or.inl ⟨by rfl, ?_⟩) hHeld ?_
      rotate_left
      · intro w0 hSw; (try dsimp only at hSw); go_simp; (try with_reducible rfl)
      try simp only [Act.put, List.setIfInBounds_toArray, List.set_cons_zero, List.set_cons_succ]
      refine wpAnyH_take (i := 7) (oi := { dst := some 64, op := Go.Op.load 33 (Go.Operand.tmp 63), type := 33, pos := "law.go:57", after := #[{ on := 6, ground := Go.Ground.data }], guard := none }) (v := ?_) rfl (by kernel_rfl) (by kernel_rfl) (by kernel_rfl) (fun _ _ _ h => h) (Or.inl ⟨by rfl, ?_⟩) hHeld ?_
      rotate_left
      · intro w0 hSw; (try dsimp only at hSw); go_simp; (try with_reducible rfl)
      try simp only [Act.put, List.setIfInBounds_toArray, List.set_cons_zero, List.set_cons_succ]
      refine wpAnyH_ready (rs := [8]) (by kernel_rfl) (by simp) ?_
      refine AllReadyH.cons (o := { dst := some 65, op := Go.Op.call { callee := Go.Callee.value (Go.Operand.func 16), args := #[Go.Operand.tmp 57, Go.Operand.tmp 59, Go.Operand.tmp 64], argTypes := #[28, 23, 33] }, type := 4, pos := "law.go:57", after := #[{ on := 0, ground := Go.Ground.data }, { on := 2, ground := Go.Ground.data }, { on := 7, ground := Go.Ground.data }], guard := none }) rfl (fun K' hK' => ?_) AllReadyH.nil
      go_simp
      go_at_call 16
      refine Calls.mono (CK.out _ TD.out) ?_
      rintro e y1 ⟨rfl, hb⟩
      replace TD := hid (TD.out.kept hb)
      replace VB := hid (VB.out.kept hb)
      clear hb
      have hz := hid (show y1.cell? ⟨w.heap.size, 0, none⟩ = some (.slice a0 c.recs.length p0) ∧ y1.cell? ⟨w.heap.size, 1, none⟩ = some (.slice a1 c.globs.length p1) ∧ y1.cell? ⟨w.heap.size, 2, none⟩ = some (.slice (some ⟨thb, toff, none⟩) c.threads.length p2) ∧ y1.cell? ⟨w.heap.size, 3, none⟩ = some (.slice a3 c.sites.length p3) ∧ y1.cell? ⟨w.heap.size, 4, none⟩ = some (.slice a4 c.secs.length p4) ∧ y1.cell? ⟨bb, 0, none⟩ = some (.slice sa b.slots.length sp) ∧ y1.cell? ⟨sb, 0, none⟩ = some (.slice (some ⟨ob, oo, none⟩) c.threads.length q0) ∧ y1.cell? ⟨ob, oo + i, none⟩ = some (.slice a (R.getD i []).length cp) from ⟨TD.out.b0.cell 0 rfl, TD.out.b0.cell 1 rfl, TD.out.b0.cell 2 rfl, TD.out.b0.cell 3 rfl, TD.out.b0.cell 4 rfl, VB.out.cell 0 rfl, TD.out.bs.cell 0 rfl, RC.out _ TD.out⟩)
      refine hK'.out _ _ hz.out (fun hHeld => ?_)
      clear hK' K'
      try simp only [Act.put, List.setIfInBounds_toArray, List.set_cons_zero, List.set_cons_succ]
      refine wpAnyH_take (i := 9) (oi := { dst := some 66, op := Go.Op.unOp Go.UnOp.not 4 (Go.Operand.tmp 65), type := 4, pos := "law.go:57", after := #[{ on := 8, ground := Go.Ground.data }], guard := none }) (v := ?_) rfl (by kernel_rfl) (by kernel_rfl) (by kernel_rfl) (fun _ _ _ h => h) (Or.inl ⟨by rfl, ?_⟩) hHeld ?_
      rotate_left
      · intro w0 hSw; (try dsimp only at hSw); go_simp; (try with_reducible rfl)
      try simp only [Act.put, List.setIfInBounds_toArray, List.set_cons_zero, List.set_cons_succ]
      refine wpAnyH_done (by kernel_rfl) ?_ _
      clear hHeld
      go_wp2_with fail
      go_roundw
      case rel => exact ⟨i + 1, by go_num, by omega, TD⟩
      case measure => simp [intOf]; omega
    · have e : i = c.threads.length := by omega
      subst e
      have y3 := TD.out.b0.cell 3 rfl
      clear HTR O0
      go_wp2_with fail
      go_loopw [71] (fun t wr => ∃ k : Nat, t = .int .i64 k ∧ k ≤ c.sites.length ∧ Hid (TdW w c [.slice a0 c.recs.length p0, .slice a1 c.globs.length p1, .slice a2 c.threads.length p2, .slice a3 c.sites.length p3, .slice a4 c.secs.length p4] sb (.slice s0 c.threads.length q0) (.slice s1 c.globs.length q1) (.slice s2 c.sites.length q2) R V BB wr)) (fun t _ => c.sites.length - (intOf t).toNat)
      case atStart => exact ⟨0, rfl, by omega, TD⟩
      case round =>
        clear y3 TD
        obtain ⟨k, rfl, hk, TD⟩ := hrel
        by_cases hkn : k < c.sites.length
        · obtain ⟨st, eb, eo, hst, rfl, elt, era, -⟩ := HER.out k hkn
          have hsr := site_rec G.out hst
          obtain ⟨th, pl, rc⟩ := st
          have s0' : w.cell? ⟨eb, eo + k * 3, none⟩ = some (.int .i64 th) := era 0 _ rfl
          have s1' : w.cell? ⟨eb, eo + k * 3 + 1, none⟩ = some (.int .i64 pl) := era 1 _ rfl
          have s2' : w.cell? ⟨eb, eo + k * 3 + 2, none⟩ = some (.int .i64 rc) := era 2 _ rfl
          rw [← TD.out.bel.cell elt] at s0' s1' s2'
          have hkI : (k : Int) < (c.sites.length : Int) := by omega
          have BK := (Below.refl wr.heap.size wr).alloc (Nat.le_refl _) (.cells #[.int .i64 th, .int .i64 pl, .int .i64 rc] 43)
          have VE := hid (VarAt.new wr [.int .i64 th, .int .i64 pl, .int .i64 rc] 43)
          replace TD := hid (TD.out.kept BK)
          generalize heb : wr.heap.size = eb2 at *
          simp only at hsr
          clear era BK
          rcases hsr with rfl | ⟨r, rfl, hr⟩
          · clear KK CKG O2 VR LT SH RL HRR F1'
            go_wp2_with fail
            replace TD := hid (TD.out.kept (Below.refl _ _).drew)
            replace VE := hid (VE.out.kept (Below.refl _ _).drew)
            refine wp_region_held_drew (S := fun (w' : World) => w'.cell? ⟨eb2, 2, none⟩ = some (.int .i64 (-1))) (by kernel_rfl) (VE.out.cell 2 rfl) (fun hHeld => ?_)
            refine wpAnyH_take (i := 0) (oi := { dst := some 76, op := Go.Op.fieldAddr 43 (Go.Operand.tmp 7) 2, type := 0, pos := "law.go:62", after := #[], guard := none }) (v := ?_) rfl (by kernel_rfl) (by kernel_rfl) (by kernel_rfl) (fun _ _ _ h => h) (Or.inl ⟨by rfl, ?_⟩) hHeld ?_
            rotate_left
            · intro w0 hSw; (try dsimp only at hSw); go_simp; (try with_reducible rfl)
            try simp only [Act.put, List.setIfInBounds_toArray, List.set_cons_zero, List.set_cons_succ]
            refine wpAnyH_take (i := 1) (oi := { dst := some 77, op := Go.Op.load 3 (Go.Operand.tmp 76), type := 3, pos := "law.go:62", after := #[{ on := 0, ground := Go.Ground.data }], guard := none }) (v := ?_) rfl (by kernel_rfl) (by kernel_rfl) (by kernel_rfl) (fun _ _ _ h => h) (Or.inl ⟨by rfl, ?_⟩) hHeld ?_
            rotate_left
            · intro w0 hSw; (try dsimp only at hSw); go_simp; (try with_reducible rfl)
            try simp only [Act.put, List.setIfInBounds_toArray, List.set_cons_zero, List.set_cons_succ]
            refine wpAnyH_take (i := 2) (oi := { dst := some 78, op := Go.Op.binOp Go.BinOp.geq 3 (Go.Operand.tmp 77) (Go.Operand.const (Go.Value.int Go.IntKind.i64 0)) 3, type := 4, pos := "law.go:62", after := #[{ on := 1, ground := Go.Ground.data }], guard := none }) (v := ?_) rfl (by kernel_rfl) (by kernel_rfl) (by kernel_rfl) (fun _ _ _ h => h) (Or.inl ⟨by rfl, ?_⟩) hHeld ?_
            rotate_left
            · intro w0 hSw; (try dsimp only at hSw); go_simp; (try with_reducible rfl)
            try simp only [Act.put, List.setIfInBounds_toArray, List.set_cons_zero, List.set_cons_succ]
            refine wpAnyH_take (i := 3) (oi := { dst := some 79, op := Go.Op.move (Go.Operand.tmp 78), type := 4, pos := "law.go:62", after := #[{ on := 2, ground := Go.Ground.data }], guard := none }) (v := ?_) rfl (by kernel_rfl) (by kernel_rfl) (by kernel_rfl) (fun _ _ _ h => h) (Or.inl ⟨by rfl, ?_⟩) hHeld ?_
            rotate_left
            · intro w0 hSw; (try dsimp only at hSw); go_simp; (try with_reducible rfl)
            try simp only [Act.put, List.setIfInBounds_toArray, List.set_cons_zero, List.set_cons_succ]
            refine wpAnyH_take (i := 4) (oi := { dst := some 80, op := Go.Op.load 28 (Go.Operand.tmp 1), type := 28, pos := "law.go:62", after := #[{ on := 3, ground := Go.Ground.guard }], guard := some (3, true) }) (v := undef) rfl (by kernel_rfl) (by kernel_rfl) (by kernel_rfl) (fun _ _ _ h => h) (Or.inr ⟨by rfl, rfl⟩) hHeld ?_
            try simp only [Act.put, List.setIfInBounds_toArray, List.set_cons_zero, List.set_cons_succ]
            refine wpAnyH_take (i := 5) (oi := { dst := some 81, op := Go.Op.fieldAddr 28 (Go.Operand.tmp 1) 0, type := 0, pos := "law.go:62", after := #[{ on := 3, ground := Go.Ground.guard }], guard := some (3, true) }) (v := undef) rfl (by kernel_rfl) (by kernel_rfl) (by kernel_rfl) (fun _ _ _ h => h) (Or.inr ⟨by rfl, rfl⟩) hHeld ?_
            try simp only [Act.put, List.setIfInBounds_toArray, List.set_cons_zero, List.set_cons_succ]
            refine wpAnyH_take (i := 6) (oi := { dst := some 82, op := Go.Op.load 22 (Go.Operand.tmp 81), type := 22, pos := "law.go:62", after := #[{ on := 5, ground := Go.Ground.data }, { on := 3, ground := Go.Ground.guard }], guard := some (3, true) }) (v := undef) rfl (by kernel_rfl) (by kernel_rfl) (by kernel_rfl) (fun _ _ _ h => h) (Or.inr ⟨by rfl, rfl⟩) hHeld ?_
            try simp only [Act.put, List.setIfInBounds_toArray, List.set_cons_zero, List.set_cons_succ]
            refine wpAnyH_take (i := 7) (oi := { dst := some 83, op := Go.Op.fieldAddr 43 (Go.Operand.tmp 7) 2, type := 0, pos := "law.go:62", after := #[{ on := 3, ground := Go.Ground.guard }], guard := some (3, true) }) (v := undef) rfl (by kernel_rfl) (by kernel_rfl) (by kernel_rfl) (fun _ _ _ h => h) (Or.inr ⟨by rfl, rfl⟩) hHeld ?_
            try simp only [Act.put, List.setIfInBounds_toArray, List.set_cons_zero, List.set_cons_succ]
            refine wpAnyH_take (i := 8) (oi := { dst := some 84, op := Go.Op.load 3 (Go.Operand.tmp 83), type := 3, pos := "law.go:62", after := #[{ on := 7, ground := Go.Ground.data }, { on := 3, ground := Go.Ground.guard }], guard := some (3, true) }) (v := undef) rfl (by kernel_rfl) (by kernel_rfl) (by kernel_rfl) (fun _ _ _ h => h) (Or.inr ⟨by rfl, rfl⟩) hHeld ?_
            try simp only [Act.put, List.setIfInBounds_toArray, List.set_cons_zero, List.set_cons_succ]
            refine wpAnyH_take (i := 9) (oi := { dst := some 85, op := Go.Op.indexAddr 22 (Go.Operand.tmp 82) (Go.Operand.tmp 84), type := 0, pos := "law.go:62", after := #[{ on := 6, ground := Go.Ground.data }, { on := 8, ground := Go.Ground.data }, { on := 3, ground := Go.Ground.guard }], guard := some (3, true) }) (v := undef) rfl (by kernel_rfl) (by kernel_rfl) (by kernel_rfl) (fun _ _ _ h => h) (Or.inr ⟨by rfl, rfl⟩) hHeld ?_
            try simp only [Act.put, List.setIfInBounds_toArray, List.set_cons_zero, List.set_cons_succ]
            refine wpAnyH_take (i := 10) (oi := { dst := some 86, op := Go.Op.load 23 (Go.Operand.tmp 85), type := 23, pos := "law.go:62", after := #[{ on := 9, ground := Go.Ground.data }, { on := 3, ground := Go.Ground.guard }], guard := some (3, true) }) (v := undef) rfl (by kernel_rfl) (by kernel_rfl) (by kernel_rfl) (fun _ _ _ h => h) (Or.inr ⟨by rfl, rfl⟩) hHeld ?_
            try simp only [Act.put, List.setIfInBounds_toArray, List.set_cons_zero, List.set_cons_succ]
            refine wpAnyH_take (i := 11) (oi := { dst := some 87, op := Go.Op.fieldAddr 35 (Go.Operand.tmp 3) 2, type := 0, pos := "law.go:62", after := #[{ on := 3, ground := Go.Ground.guard }], guard := some (3, true) }) (v := undef) rfl (by kernel_rfl) (by kernel_rfl) (by kernel_rfl) (fun _ _ _ h => h) (Or.inr ⟨by rfl, rfl⟩) hHeld ?_
            try simp only [Act.put, List.setIfInBounds_toArray, List.set_cons_zero, List.set_cons_succ]
            refine wpAnyH_take (i := 12) (oi := { dst := some 88, op := Go.Op.load 32 (Go.Operand.tmp 87), type := 32, pos := "law.go:62", after := #[{ on := 11, ground := Go.Ground.data }, { on := 3, ground := Go.Ground.guard }], guard := some (3, true) }) (v := undef) rfl (by kernel_rfl) (by kernel_rfl) (by kernel_rfl) (fun _ _ _ h => h) (Or.inr ⟨by rfl, rfl⟩) hHeld ?_
            try simp only [Act.put, List.setIfInBounds_toArray, List.set_cons_zero, List.set_cons_succ]
            refine wpAnyH_take (i := 13) (oi := { dst := some 89, op := Go.Op.move (Go.Operand.tmp 6), type := 3, pos := "law.go:62", after := #[{ on := 3, ground := Go.Ground.guard }], guard := some (3, true) }) (v := undef) rfl (by kernel_rfl) (by kernel_rfl) (by kernel_rfl) (fun _ _ _ h => h) (Or.inr ⟨by rfl, rfl⟩) hHeld ?_
            try simp only [Act.put, List.setIfInBounds_toArray, List.set_cons_zero, List.set_cons_succ]
            refine wpAnyH_take (i := 14) (oi := { dst := some 90, op := Go.Op.indexAddr 32 (Go.Operand.tmp 88) (Go.Operand.tmp 89), type := 0, pos := "law.go:62", after := #[{ on := 12, ground := Go.Ground.data }, { on := 13, ground := Go.Ground.data }, { on := 3, ground := Go.Ground.guard }], guard := some (3, true) }) (v := undef) rfl (by kernel_rfl) (by kernel_rfl) (by kernel_rfl) (fun _ _ _ h => h) (Or.inr ⟨by rfl, rfl⟩) hHeld ?_
            try simp only [Act.put, List.setIfInBounds_toArray, List.set_cons_zero, List.set_cons_succ]
            refine wpAnyH_take (i := 15) (oi := { dst := some 91, op := Go.Op.load 33 (Go.Operand.tmp 90), type := 33, pos := "law.go:62", after := #[{ on := 14, ground := Go.Ground.data }, { on := 3, ground := Go.Ground.guard }], guard := some (3, true) }) (v := undef) rfl (by kernel_rfl) (by kernel_rfl) (by kernel_rfl) (fun _ _ _ h => h) (Or.inr ⟨by rfl, rfl⟩) hHeld ?_
            try simp only [Act.put, List.setIfInBounds_toArray, List.set_cons_zero, List.set_cons_succ]
            refine wpAnyH_ready (rs := [16]) (by kernel_rfl) (by simp) ?_
            refine AllReadyH.cons (o := { dst := some 92, op := Go.Op.call { callee := Go.Callee.value (Go.Operand.func 16), args := #[Go.Operand.tmp 80, Go.Operand.tmp 86, Go.Operand.tmp 91], argTypes := #[28, 23, 33] }, type := 4, pos := "law.go:62", after := #[{ on := 4, ground := Go.Ground.data }, { on := 10, ground := Go.Ground.data }, { on := 15, ground := Go.Ground.data }, { on := 3, ground := Go.Ground.chain }, { on := 3, ground := Go.Ground.guard }], guard := some (3, true) }) rfl (fun K' hK' => ?_) AllReadyH.nil
            go_simp
            refine hK'.out _ _ hHeld (fun hHeld => ?_)
            clear hK' K'
            try simp only [Act.put, List.setIfInBounds_toArray, List.set_cons_zero, List.set_cons_succ]
            refine wpAnyH_take (i := 17) (oi := { dst := some 93, op := Go.Op.unOp Go.UnOp.not 4 (Go.Operand.tmp 92), type := 4, pos := "law.go:62", after := #[{ on := 16, ground := Go.Ground.data }, { on := 3, ground := Go.Ground.guard }], guard := some (3, true) }) (v := undef) rfl (by kernel_rfl) (by kernel_rfl) (by kernel_rfl) (fun _ _ _ h => h) (Or.inr ⟨by rfl, rfl⟩) hHeld ?_
            try simp only [Act.put, List.setIfInBounds_toArray, List.set_cons_zero, List.set_cons_succ]
            refine wpAnyH_take (i := 18) (oi := { dst := some 94, op := Go.Op.pick (Go.Operand.tmp 79) (Go.Operand.tmp 93) (Go.Operand.const (Go.Value.bool false)), type := 4, pos := "law.go:62", after := #[{ on := 3, ground := Go.Ground.data }, { on := 17, ground := Go.Ground.data }], guard := none }) (v := ?_) rfl (by kernel_rfl) (by kernel_rfl) (by kernel_rfl) (fun _ _ _ h => h) (Or.inl ⟨by rfl, ?_⟩) hHeld ?_
            rotate_left
            · intro w0 hSw; (try dsimp only at hSw); go_simp; (try with_reducible rfl)
            try simp only [Act.put, List.setIfInBounds_toArray, List.set_cons_zero, List.set_cons_succ]
            refine wpAnyH_done (by kernel_rfl) ?_ _
            clear hHeld
            go_wp2_with fail
            go_roundw
            case rel => exact ⟨k + 1, by go_num, by omega, TD⟩
            case measure => simp [intOf]; omega
          · obtain ⟨q, rb, ro, hq, rfl, rlt0, rra, rok⟩ := HRR.out r hr
            obtain ⟨fa, fp, fe, -⟩ := locs_at rok
            have hlv : Locs w (.slice fa q.flds.length fp) q.flds := by rw [← fe]; exact rok
            have cr0 : w.cell? ⟨rb, ro + r, none⟩ = some (.slice fa q.flds.length fp) := by
              have := rra 0 _ rfl
              rw [Nat.mul_one, fe] at this
              exact this
            obtain ⟨ob, oo, rfl, -⟩ := O2.out k hkn _ TD.out
            obtain ⟨a, cp, ea⟩ := VR.out (c.threads.length + 1 + k) (by rw [RL.out]; omega)
            have hrI : (r : Int) < (c.recs.length : Int) := by omega
            have RR := hid (fun Y (h : TdW w c [.slice (some ⟨rb, ro, none⟩) c.recs.length p0, .slice a1 c.globs.length p1, .slice a2 c.threads.length p2, .slice (some ⟨eb, eo, none⟩) c.sites.length p3, .slice a4 c.secs.length p4] sb (.slice s0 c.threads.length q0) (.slice s1 c.globs.length q1) (.slice (some ⟨ob, oo, none⟩) c.sites.length q2) R V BB Y) => ((h.bel.cell (p := ⟨rb, ro + r, none⟩) rlt0).trans cr0))
            have RC := hid (fun Y (h : TdW w c [.slice (some ⟨rb, ro, none⟩) c.recs.length p0, .slice a1 c.globs.length p1, .slice a2 c.threads.length p2, .slice (some ⟨eb, eo, none⟩) c.sites.length p3, .slice a4 c.secs.length p4] sb (.slice s0 c.threads.length q0) (.slice s1 c.globs.length q1) (.slice (some ⟨ob, oo, none⟩) c.sites.length q2) R V BB Y) => (by
              obtain ⟨ob', oo', e, k'⟩ := O2.out k hkn Y h
              cases e
              rw [ea] at k'
              exact k' : Y.cell? ⟨ob, oo + k, none⟩ = some (.slice a (R.getD (c.threads.length + 1 + k) []).length cp)))
            have hfl : fldsOf c ⟨th, pl, (r : Int)⟩ = q.flds := by
              show (if (r : Int) < 0 then [] else (c.recs.getD (r : Int).toNat Rl.z).flds) = q.flds
              rw [if_neg (by omega), Int.toNat_natCast]
              simp [List.getD, hq]
            have CK := hid (fun Y (h : TdW w c [.slice (some ⟨rb, ro, none⟩) c.recs.length p0, .slice a1 c.globs.length p1, .slice a2 c.threads.length p2, .slice (some ⟨eb, eo, none⟩) c.sites.length p3, .slice a4 c.secs.length p4] sb (.slice s0 c.threads.length q0) (.slice s1 c.globs.length q1) (.slice (some ⟨ob, oo, none⟩) c.sites.length q2) R V BB Y) => KK.out (c.threads.length + 1 + k) a cp ea q.flds (.slice fa q.flds.length fp) hlv (by have := G.out.flds r q hq; omega) (by
              rw [row_len, SH.out, shape_site c hst, ← hfl]
              unfold fldN fldsOf
              split <;> rfl) (fun j l hl => typed_of (by
              have := LT.out (c.threads.length + 1 + k) j
              rw [kind_sites hst, hfl, show q.flds.getD j Loc.z = l by simp [List.getD, hl]] at this
              exact this)) Y h)
            have hr0 : decide ((0 : Int) ≤ (r : Int)) = true := by simp
            clear rra rok fe hlv cr0 ea hst hq KK CKG O2 VR LT SH RL HRR F1' rlt0 hfl
            go_wp2_with fail
            replace TD := hid (TD.out.kept (Below.refl _ _).drew)
            replace VE := hid (VE.out.kept (Below.refl _ _).drew)
            refine wp_region_held_drew (S := fun (w' : World) => w'.cell? ⟨w.heap.size, 0, none⟩ = some (.slice (some ⟨rb, ro, none⟩) c.recs.length p0) ∧ w'.cell? ⟨w.heap.size, 1, none⟩ = some (.slice a1 c.globs.length p1) ∧ w'.cell? ⟨w.heap.size, 2, none⟩ = some (.slice a2 c.threads.length p2) ∧ w'.cell? ⟨w.heap.size, 3, none⟩ = some (.slice (some ⟨eb, eo, none⟩) c.sites.length p3) ∧ w'.cell? ⟨w.heap.size, 4, none⟩ = some (.slice a4 c.secs.length p4) ∧ w'.cell? ⟨eb2, 2, none⟩ = some (.int .i64 (r : Int)) ∧ w'.cell? ⟨rb, ro + r, none⟩ = some (.slice fa q.flds.length fp) ∧ w'.cell? ⟨sb, 2, none⟩ = some (.slice (some ⟨ob, oo, none⟩) c.sites.length q2) ∧ w'.cell? ⟨ob, oo + k, none⟩ = some (.slice a (R.getD (c.threads.length + 1 + k) []).length cp)) (by kernel_rfl) (⟨TD.out.b0.cell 0 rfl, TD.out.b0.cell 1 rfl, TD.out.b0.cell 2 rfl, TD.out.b0.cell 3 rfl, TD.out.b0.cell 4 rfl, VE.out.cell 2 rfl, RR.out _ TD.out, TD.out.bs.cell 2 rfl, RC.out _ TD.out⟩) (fun hHeld => ?_)
            refine wpAnyH_take (i := 0) (oi := { dst := some 76, op := Go.Op.fieldAddr 43 (Go.Operand.tmp 7) 2, type := 0, pos := "law.go:62", after := #[], guard := none }) (v := ?_) rfl (by kernel_rfl) (by kernel_rfl) (by kernel_rfl) (fun _ _ _ h => h) (Or.inl ⟨by rfl, ?_⟩) hHeld ?_
            rotate_left
            · intro w0 hSw; (try dsimp only at hSw); go_simp; (try with_reducible rfl)
            try simp only [Act.put, List.setIfInBounds_toArray, List.set_cons_zero, List.set_cons_succ]
            refine wpAnyH_take (i := 1) (oi := { dst := some 77, op := Go.Op.load 3 (Go.Operand.tmp 76), type := 3, pos := "law.go:62", after := #[{ on := 0, ground := Go.Ground.data }], guard := none }) (v := ?_) rfl (by kernel_rfl) (by kernel_rfl) (by kernel_rfl) (fun _ _ _ h => h) (Or.inl ⟨by rfl, ?_⟩) hHeld ?_
            rotate_left
            · intro w0 hSw; (try dsimp only at hSw); go_simp; (try with_reducible rfl)
            try simp only [Act.put, List.setIfInBounds_toArray, List.set_cons_zero, List.set_cons_succ]
            refine wpAnyH_take (i := 2) (oi := { dst := some 78, op := Go.Op.binOp Go.BinOp.geq 3 (Go.Operand.tmp 77) (Go.Operand.const (Go.Value.int Go.IntKind.i64 0)) 3, type := 4, pos := "law.go:62", after := #[{ on := 1, ground := Go.Ground.data }], guard := none }) (v := ?_) rfl (by kernel_rfl) (by kernel_rfl) (by kernel_rfl) (fun _ _ _ h => h) (Or.inl ⟨by rfl, ?_⟩) hHeld ?_
            rotate_left
            · intro w0 hSw; (try dsimp only at hSw); go_simp; (try with_reducible rfl)
            try simp only [Act.put, List.setIfInBounds_toArray, List.set_cons_zero, List.set_cons_succ]
            refine wpAnyH_take (i := 3) (oi := { dst := some 79, op := Go.Op.move (Go.Operand.tmp 78), type := 4, pos := "law.go:62", after := #[{ on := 2, ground := Go.Ground.data }], guard := none }) (v := ?_) rfl (by kernel_rfl) (by kernel_rfl) (by kernel_rfl) (fun _ _ _ h => h) (Or.inl ⟨by rfl, ?_⟩) hHeld ?_
            rotate_left
            · intro w0 hSw; (try dsimp only at hSw); go_simp; (try with_reducible rfl)
            try simp only [Act.put, List.setIfInBounds_toArray, List.set_cons_zero, List.set_cons_succ]
            refine wpAnyH_take (i := 4) (oi := { dst := some 80, op := Go.Op.load 28 (Go.Operand.tmp 1), type := 28, pos := "law.go:62", after := #[{ on := 3, ground := Go.Ground.guard }], guard := some (3, true) }) (v := ?_) rfl (by kernel_rfl) (by kernel_rfl) (by kernel_rfl) (fun _ _ _ h => h) (Or.inl ⟨by rfl, ?_⟩) hHeld ?_
            rotate_left
            · intro w0 hSw; (try dsimp only at hSw); go_simp; (try with_reducible rfl)
            try simp only [Act.put, List.setIfInBounds_toArray, List.set_cons_zero, List.set_cons_succ]
            refine wpAnyH_take (i := 5) (oi := { dst := some 81, op := Go.Op.fieldAddr 28 (Go.Operand.tmp 1) 0, type := 0, pos := "law.go:62", after := #[{ on := 3, ground := Go.Ground.guard }], guard := some (3, true) }) (v := ?_) rfl (by kernel_rfl) (by kernel_rfl) (by kernel_rfl) (fun _ _ _ h => h) (Or.inl ⟨by rfl, ?_⟩) hHeld ?_
            rotate_left
            · intro w0 hSw; (try dsimp only at hSw); go_simp; (try with_reducible rfl)
            try simp only [Act.put, List.setIfInBounds_toArray, List.set_cons_zero, List.set_cons_succ]
            refine wpAnyH_take (i := 6) (oi := { dst := some 82, op := Go.Op.load 22 (Go.Operand.tmp 81), type := 22, pos := "law.go:62", after := #[{ on := 5, ground := Go.Ground.data }, { on := 3, ground := Go.Ground.guard }], guard := some (3, true) }) (v := ?_) rfl (by kernel_rfl) (by kernel_rfl) (by kernel_rfl) (fun _ _ _ h => h) (Or.inl ⟨by rfl, ?_⟩) hHeld ?_
            rotate_left
            · intro w0 hSw; (try dsimp only at hSw); go_simp; (try with_reducible rfl)
            try simp only [Act.put, List.setIfInBounds_toArray, List.set_cons_zero, List.set_cons_succ]
            refine wpAnyH_take (i := 7) (oi := { dst := some 83, op := Go.Op.fieldAddr 43 (Go.Operand.tmp 7) 2, type := 0, pos := "law.go:62", after := #[{ on := 3, ground := Go.Ground.guard }], guard := some (3, true) }) (v := ?_) rfl (by kernel_rfl) (by kernel_rfl) (by kernel_rfl) (fun _ _ _ h => h) (Or.inl ⟨by rfl, ?_⟩) hHeld ?_
            rotate_left
            · intro w0 hSw; (try dsimp only at hSw); go_simp; (try with_reducible rfl)
            try simp only [Act.put, List.setIfInBounds_toArray, List.set_cons_zero, List.set_cons_succ]
            refine wpAnyH_take (i := 8) (oi := { dst := some 84, op := Go.Op.load 3 (Go.Operand.tmp 83), type := 3, pos := "law.go:62", after := #[{ on := 7, ground := Go.Ground.data }, { on := 3, ground := Go.Ground.guard }], guard := some (3, true) }) (v := ?_) rfl (by kernel_rfl) (by kernel_rfl) (by kernel_rfl) (fun _ _ _ h => h) (Or.inl ⟨by rfl, ?_⟩) hHeld ?_
            rotate_left
            · intro w0 hSw; (try dsimp only at hSw); go_simp; (try with_reducible rfl)
            try simp only [Act.put, List.setIfInBounds_toArray, List.set_cons_zero, List.set_cons_succ]
            refine wpAnyH_take (i := 9) (oi := { dst := some 85, op := Go.Op.indexAddr 22 (Go.Operand.tmp 82) (Go.Operand.tmp 84), type := 0, pos := "law.go:62", after := #[{ on := 6, ground := Go.Ground.data }, { on := 8, ground := Go.Ground.data }, { on := 3, ground := Go.Ground.guard }], guard := some (3, true) }) (v := ?_) rfl (by kernel_rfl) (by kernel_rfl) (by kernel_rfl) (fun _ _ _ h => h) (Or.inl ⟨by rfl, ?_⟩) hHeld ?_
            rotate_left
            · intro w0 hSw; (try dsimp only at hSw); go_simp; (try with_reducible rfl)
            try simp only [Act.put, List.setIfInBounds_toArray, List.set_cons_zero, List.set_cons_succ]
            refine wpAnyH_take (i := 10) (oi := { dst := some 86, op := Go.Op.load 23 (Go.Operand.tmp 85), type := 23, pos := "law.go:62", after := #[{ on := 9, ground := Go.Ground.data }, { on := 3, ground := Go.Ground.guard }], guard := some (3, true) }) (v := ?_) rfl (by kernel_rfl) (by kernel_rfl) (by kernel_rfl) (fun _ _ _ h => h) (Or.inl ⟨by rfl, ?_⟩) hHeld ?_
            rotate_left
            · intro w0 hSw; (try dsimp only at hSw); go_simp; (try with_reducible rfl)
            try simp only [Act.put, List.setIfInBounds_toArray, List.set_cons_zero, List.set_cons_succ]
            refine wpAnyH_take (i := 11) (oi := { dst := some 87, op := Go.Op.fieldAddr 35 (Go.Operand.tmp 3) 2, type := 0, pos := "law.go:62", after := #[{ on := 3, ground := Go.Ground.guard }], guard := some (3, true) }) (v := ?_) rfl (by kernel_rfl) (by kernel_rfl) (by kernel_rfl) (fun _ _ _ h => h) (Or.inl ⟨by rfl, ?_⟩) hHeld ?_
            rotate_left
            · intro w0 hSw; (try dsimp only at hSw); go_simp; (try with_reducible rfl)
            try simp only [Act.put, List.setIfInBounds_toArray, List.set_cons_zero, List.set_cons_succ]
            refine wpAnyH_take (i := 12) (oi := { dst := some 88, op := Go.Op.load 32 (Go.Operand.tmp 87), type := 32, pos := "law.go:62", after := #[{ on := 11, ground := Go.Ground.data }, { on := 3, ground := Go.Ground.guard }], guard := some (3, true) }) (v := ?_) rfl (by kernel_rfl) (by kernel_rfl) (by kernel_rfl) (fun _ _ _ h => h) (Or.inl ⟨by rfl, ?_⟩) hHeld ?_
            rotate_left
            · intro w0 hSw; (try dsimp only at hSw); go_simp; (try with_reducible rfl)
            try simp only [Act.put, List.setIfInBounds_toArray, List.set_cons_zero, List.set_cons_succ]
            refine wpAnyH_take (i := 13) (oi := { dst := some 89, op := Go.Op.move (Go.Operand.tmp 6), type := 3, pos := "law.go:62", after := #[{ on := 3, ground := Go.Ground.guard }], guard := some (3, true) }) (v := ?_) rfl (by kernel_rfl) (by kernel_rfl) (by kernel_rfl) (fun _ _ _ h => h) (Or.inl ⟨by rfl, ?_⟩) hHeld ?_
            rotate_left
            · intro w0 hSw; (try dsimp only at hSw); go_simp; (try with_reducible rfl)
            try simp only [Act.put, List.setIfInBounds_toArray, List.set_cons_zero, List.set_cons_succ]
            refine wpAnyH_take (i := 14) (oi := { dst := some 90, op := Go.Op.indexAddr 32 (Go.Operand.tmp 88) (Go.Operand.tmp 89), type := 0, pos := "law.go:62", after := #[{ on := 12, ground := Go.Ground.data }, { on := 13, ground := Go.Ground.data }, { on := 3, ground := Go.Ground.guard }], guard := some (3, true) }) (v := ?_) rfl (by kernel_rfl) (by kernel_rfl) (by kernel_rfl) (fun _ _ _ h => h) (Or.inl ⟨by rfl, ?_⟩) hHeld ?_
            rotate_left
            · intro w0 hSw; (try dsimp only at hSw); go_simp; (try with_reducible rfl)
            try simp only [Act.put, List.setIfInBounds_toArray, List.set_cons_zero, List.set_cons_succ]
            refine wpAnyH_take (i := 15) (oi := { dst := some 91, op := Go.Op.load 33 (Go.Operand.tmp 90), type := 33, pos := "law.go:62", after := #[{ on := 14, ground := Go.Ground.data }, { on := 3, ground := Go.Ground.guard }], guard := some (3, true) }) (v := ?_) rfl (by kernel_rfl) (by kernel_rfl) (by kernel_rfl) (fun _ _ _ h => h) (Or.inl ⟨by rfl, ?_⟩) hHeld ?_
            rotate_left
            · intro w0 hSw; (try dsimp only at hSw); go_simp; (try with_reducible rfl)
            try simp only [Act.put, List.setIfInBounds_toArray, List.set_cons_zero, List.set_cons_succ]
            refine wpAnyH_ready (rs := [16]) (by kernel_rfl) (by simp) ?_
            refine AllReadyH.cons (o := { dst := some 92, op := Go.Op.call { callee := Go.Callee.value (Go.Operand.func 16), args := #[Go.Operand.tmp 80, Go.Operand.tmp 86, Go.Operand.tmp 91], argTypes := #[28, 23, 33] }, type := 4, pos := "law.go:62", after := #[{ on := 4, ground := Go.Ground.data }, { on := 10, ground := Go.Ground.data }, { on := 15, ground := Go.Ground.data }, { on := 3, ground := Go.Ground.chain }, { on := 3, ground := Go.Ground.guard }], guard := some (3, true) }) rfl (fun K' hK' => ?_) AllReadyH.nil
            go_simp
            go_at_call 16
            refine Calls.mono (CK.out _ TD.out) ?_
            rintro e y1 ⟨rfl, hb⟩
            replace TD := hid (TD.out.kept hb)
            replace VE := hid (VE.out.kept hb)
            clear hb
            have hz := hid (show y1.cell? ⟨w.heap.size, 0, none⟩ = some (.slice (some ⟨rb, ro, none⟩) c.recs.length p0) ∧ y1.cell? ⟨w.heap.size, 1, none⟩ = some (.slice a1 c.globs.length p1) ∧ y1.cell? ⟨w.heap.size, 2, none⟩ = some (.slice a2 c.threads.length p2) ∧ y1.cell? ⟨w.heap.size, 3, none⟩ = some (.slice (some ⟨eb, eo, none⟩) c.sites.length p3) ∧ y1.cell? ⟨w.heap.size, 4, none⟩ = some (.slice a4 c.secs.length p4) ∧ y1.cell? ⟨eb2, 2, none⟩ = some (.int .i64 (r : Int)) ∧ y1.cell? ⟨rb, ro + r, none⟩ = some (.slice fa q.flds.length fp) ∧ y1.cell? ⟨sb, 2, none⟩ = some (.slice (some ⟨ob, oo, none⟩) c.sites.length q2) ∧ y1.cell? ⟨ob, oo + k, none⟩ = some (.slice a (R.getD (c.threads.length + 1 + k) []).length cp) from ⟨TD.out.b0.cell 0 rfl, TD.out.b0.cell 1 rfl, TD.out.b0.cell 2 rfl, TD.out.b0.cell 3 rfl, TD.out.b0.cell 4 rfl, VE.out.cell 2 rfl, RR.out _ TD.out, TD.out.bs.cell 2 rfl, RC.out _ TD.out⟩)
            refine hK'.out _ _ hz.out (fun hHeld => ?_)
            clear hK' K'
            try simp only [Act.put, List.setIfInBounds_toArray, List.set_cons_zero, List.set_cons_succ]
            refine wpAnyH_take (i := 17) (oi := { dst := some 93, op := Go.Op.unOp Go.UnOp.not 4 (Go.Operand.tmp 92), type := 4, pos := "law.go:62", after := #[{ on := 16, ground := Go.Ground.data }, { on := 3, ground := Go.Ground.guard }], guard := some (3, true) }) (v := ?_) rfl (by kernel_rfl) (by kernel_rfl) (by kernel_rfl) (fun _ _ _ h => h) (Or.inl ⟨by rfl, ?_⟩) hHeld ?_
            rotate_left
            · intro w0 hSw; (try dsimp only at hSw); go_simp; (try with_reducible rfl)
            try simp only [Act.put, List.setIfInBounds_toArray, List.set_cons_zero, List.set_cons_succ]
            refine wpAnyH_take (i := 18) (oi := { dst := some 94, op := Go.Op.pick (Go.Operand.tmp 79) (Go.Operand.tmp 93) (Go.Operand.const (Go.Value.bool false)), type := 4, pos := "law.go:62", after := #[{ on := 3, ground := Go.Ground.data }, { on := 17, ground := Go.Ground.data }], guard := none }) (v := ?_) rfl (by kernel_rfl) (by kernel_rfl) (by kernel_rfl) (fun _ _ _ h => h) (Or.inl ⟨by rfl, ?_⟩) hHeld ?_
            rotate_left
            · intro w0 hSw; (try dsimp only at hSw); go_simp; (try with_reducible rfl)
            try simp only [Act.put, List.setIfInBounds_toArray, List.set_cons_zero, List.set_cons_succ]
            refine wpAnyH_done (by kernel_rfl) ?_ _
            clear hHeld
            go_wp2_with fail
            go_roundw
            case rel => exact ⟨k + 1, by go_num, by omega, TD⟩
            case measure => simp [intOf]; omega
        · have e : k = c.sites.length := by omega
          subst e
          obtain ⟨y0, y1, y2, y3, y4⟩ := cells5 TD.out.b0
          have f1' := TD.out.bs.cell 1 rfl
          clear HER KK O2 VR LT SH RL HRR F1'
          go_wp2_with (go_at_call 16; refine Calls.mono (CKG.out _ TD.out) ?_; rintro e y9 ⟨rfl, hb⟩; replace TD := hid (TD.out.kept hb); clear hb CKG y0 y1 y2 y3 y4 f1')
          go_ret
          exact ⟨rfl, TD.out.bel⟩
end Go.Proofs.YtkdpcaoocmbbhaaDoor
