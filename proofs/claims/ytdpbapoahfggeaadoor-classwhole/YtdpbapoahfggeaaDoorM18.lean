/- Dn, Sv -/
import Derived.Test.YtdpbapoahfggeaaDoorEs
import Derived.Test.YtdpbapoahfggeaaDoorEmc
import Derived.Deep.LoopGhost
import Derived.Deep.DeepCutAuto
/- The contract of do, whole. -/
namespace Go.Proofs.YtdpbapoahfggeaaDoor
open Go.ChangeShapes Go.WideShapes Go.ChangeAt Go.RowKit
set_option linter.unusedVariables false

theorem op4_no {c : Cd} (g : GoodP c) {i : Nat} {t : Bd} {k : Nat} {x : Ins} (ht : c.threads[i]? = some t) (hx : t.code[k]? = some x) (ho : x.op = 4 ∨ x.op = 10) : meansL (slotOf t x) = false := by
  have h := (g.ths i t ht).2.2.2.2.2 k x hx
  unfold insOk at h
  simp only [Bool.and_eq_true] at h
  have h5 := h.2.2.2.2
  have hk : (slotOf t x).kind = 1 := by
    unfold agreesB at h5
    unfold slotOf
    rcases ho with e | e <;> rw [e] at h5 <;> simp [holdsB] at h5
    · exact h5.1.1
    · exact h5.1.1
  unfold meansL
  rw [hk]
  rfl

theorem ops_of {c : Cd} (g : GoodP c) {i : Nat} {t : Bd} {k : Nat} {x : Ins} (ht : c.threads[i]? = some t) (hx : t.code[k]? = some x) (tg : tgtM c t x = true) : x.op = 1 ∨ x.op = 2 ∨ x.op = 3 ∨ x.op = 5 ∨ x.op = 6 ∨ x.op = 8 ∨ x.op = 9 := by
  unfold tgtM at tg
  split at tg
  · rename_i hD
    have : x.op = 1 ∨ x.op = 2 ∨ x.op = 3 ∨ x.op = 4 ∨ x.op = 8 ∨ x.op = 9 ∨ x.op = 10 := by
      unfold hasD at hD
      simp only [Bool.or_eq_true, beq_iff_eq] at hD
      omega
    rcases this with e | e | e | e | e | e | e
    · omega
    · omega
    · omega
    · rw [op4_no g ht hx (.inl e)] at tg; cases tg
    · omega
    · omega
    · rw [op4_no g ht hx (.inr e)] at tg; cases tg
  · split at tg
    · rename_i h; have : x.op = 5 := by simpa using h
      omega
    · split at tg
      · rename_i h; have : x.op = 6 := by simpa using h
        omega
      · cases tg

theorem do_any {W : World} {sb base top : Nat} {c : Cd} {v0 v1 v2 : Value} {g : Bool} {R : List (List Nat)} {V : Nat → Value} {B : Nat → Nat} {t : Bd} {s : Stp} (h : Fed W sb base top c v0 v1 v2 g R V B t s) (hTab : Tab W) (hb0 : 0 < base) (hs0 : 0 < sb) (W0 : World) (hW0 : W0.heap.size ≤ base) (hW1 : W0.heap.size ≤ sb) (hSt : Stes W0 c.ev c.sites) (hBl : Below W0.heap.size W0 W) :
    Calls Tryd.prog 25 #[.pointer (some ⟨sb, 0, none⟩), .agg s.cells.toArray] W fun e W' => e = .returned (.tuple #[]) ∧ ∃ R', Sol W' sb base top c v0 v1 v2 (g || decide (R' ≠ R)) R' V B ∧ Grew c s.i t s.x R R' ∧ Touch (Own base top sb) W W' := by
  obtain ⟨j, hx⟩ := h.co
  rcases ops_of h.good h.th hx h.tg with e | e | e | e | e | e | e
  · exact do1 h e
  · exact do2 h e
  · exact do3 h e hTab hb0 hs0
  · exact do5 h e
  · exact do6 h e hTab hb0 hs0 W0 hW0 hW1 hSt hBl
  · exact do8 h e
  · exact do9 h e
end Go.Proofs.YtdpbapoahfggeaaDoor
/- The contract of Solve: the least sets. -/
namespace Go.Proofs.YtdpbapoahfggeaaDoor
open Go.ChangeShapes Go.WideShapes Go.ChangeAt Go.RowKit Go.Deep
set_option linter.unusedVariables false
set_option linter.unusedSimpArgs false

theorem size60 : (Tryd.prog.info? 69).map (·.size) = some 9 := by kernel_rfl
theorem ones9 (a0 : Option Addr) (m0 c0 : Nat) (a1 : Option Addr) (m1 c1 : Nat) (a2 : Option Addr) (m2 c2 : Nat) (a3 : Option Addr) (m3 c3 : Nat) (a4 : Option Addr) (m4 c4 : Nat) (a5 : Option Addr) (m5 c5 : Nat) (a6 : Option Addr) (m6 c6 : Nat) (a7 : Option Addr) (m7 c7 : Nat) (g : Bool) :
    ∀ v ∈ [Value.slice a0 m0 c0, .slice a1 m1 c1, .slice a2 m2 c2, .slice a3 m3 c3, .slice a4 m4 c4, .slice a5 m5 c5, .slice a6 m6 c6, .slice a7 m7 c7, .bool g], v.oneCell' = true := by
  intro v hv
  simp only [List.mem_cons, List.not_mem_nil, or_false] at hv
  rcases hv with rfl | rfl | rfl | rfl | rfl | rfl | rfl | rfl | rfl <;> rfl

theorem lt_alloc (w : World) (o : Obj) : w.heap.size < (w.alloc o).heap.size := by rw [World.size_alloc]; omega
theorem lt_alloc1 (w : World) (o : Obj) : w.drew.heap.size < (w.alloc o).drew.heap.size := lt_alloc w o
theorem sol_new {W z : World} {sb base top : Nat} {c : Cd} {v0 v1 v2 : Value} {R : List (List Nat)} {V : Nat → Value} {B : Nat → Nat} (hv : VarAt z sb [c.rv, c.gv, c.tv, c.ev, c.cv, v0, v1, v2, .bool false] 69) (ht : Turned sb W z) (hs : SetsM W base top c.threads.length c.sites.length v0 v1 v2 R V B) (ha : top ≤ sb ∨ sb < base) (hW : top ≤ W.heap.size) : Sol z sb base top c v0 v1 v2 false R V B :=
  ⟨hv, hs.touch ht.t1 (fun b h1 h2 e => by subst e; omega), ha, by rw [ht.size]; exact hW⟩

def SolveP (c : Cd) (w : World) (e : Ending) (w' : World) : Prop :=
  ∃ v0 v1 v2, e = .returned (.agg #[v0, v1, v2]) ∧ Below w.heap.size w w' ∧ (GoodP c → ∃ R V B, SetsM w' w.heap.size w'.heap.size c.threads.length c.sites.length v0 v1 v2 R V B ∧ Least c R) ∧ (¬ GoodP c → v0 = .slice none 0 0 ∧ v1 = .slice none 0 0 ∧ v2 = .slice none 0 0)
theorem OutM.wide {w : World} {base top base' top' : Nat} {v : Value} {n : Nat} {f : Nat → Value} {Bd : Nat → Prop} (h : OutM w base top v n f Bd) (hb : base' ≤ base) (ht : top ≤ top') : OutM w base' top' v n f Bd := by
  obtain ⟨a, c, e, h⟩ := h
  refine ⟨a, c, e, fun i hi => ?_⟩
  obtain ⟨b, off, h1, h2, h3, h4⟩ := h i hi
  exact ⟨b, off, h1, by omega, by omega, h4⟩
theorem SetsM.wide {w : World} {base top base' top' nT nS : Nat} {v0 v1 v2 : Value} {R : List (List Nat)} {V : Nat → Value} {B : Nat → Nat} (h : SetsM w base top nT nS v0 v1 v2 R V B) (hb : base' ≤ base) (ht : top ≤ top') : SetsM w base' top' nT nS v0 v1 v2 R V B :=
  ⟨h.len, h.row, h.one, h.o0.wide hb ht, h.o2.wide hb ht, h.sep, fun r hr => by have := h.lo r hr; omega⟩
theorem ones3 {v0 v1 v2 : Value} (h0 : v0.oneCell' = true) (h1 : v1.oneCell' = true) (h2 : v2.oneCell' = true) : ∀ v ∈ [v0, v1, v2], v.oneCell' = true := by
  intro v hv
  simp only [List.mem_cons, List.not_mem_nil, or_false] at hv
  rcases hv with rfl | rfl | rfl
  · exact h0
  · exact h1
  · exact h2
theorem SetsM.ones {w : World} {base top nT nS : Nat} {v0 v1 v2 : Value} {R : List (List Nat)} {V : Nat → Value} {B : Nat → Nat} (h : SetsM w base top nT nS v0 v1 v2 R V B) : ∃ s0 n0 c0 s1 n1 c1 s2 n2 c2, v0 = .slice s0 n0 c0 ∧ v1 = .slice s1 n1 c1 ∧ v2 = .slice s2 n2 c2 := by
  obtain ⟨a, c, e, _⟩ := h.o0
  obtain ⟨a', c', e', _⟩ := h.o2
  obtain ⟨a2, c2, e2⟩ := h.form (r := nT) (by rw [h.len]; omega)
  exact ⟨_, _, _, _, _, _, _, _, _, e, h.one.trans e2, e'⟩

theorem flat10 : ∀ (l : List Stp) (r : Nat) (s : Stp), l[r]? = some s → ∀ k, k < 10 → (l.flatMap Stp.cells)[r * 10 + k]? = s.cells[k]?
  | [], r, s, h, _, _ => by simp at h
  | x :: l, 0, s, h, k, hk => by
    have e : x = s := by simpa using h
    subst e
    rw [List.flatMap_cons, List.getElem?_append_left (by show 0 * 10 + k < 10; omega)]
    congr 1
    omega
  | x :: l, r + 1, s, h, k, hk => by
    have := flat10 l r s (by simpa using h) k hk
    rw [List.flatMap_cons, List.getElem?_append_right (by show 10 ≤ (r + 1) * 10 + k; omega), ← this]
    congr 1
    show (r + 1) * 10 + k - 10 = r * 10 + k
    omega
/-- The row of steps, above a block. -/
def RowS (W : World) (lo : Nat) (a : Option Addr) (l : List Stp) : Prop :=
  ∀ (r : Nat) (s : Stp), l[r]? = some s → ∃ g off, a = some ⟨g, off, none⟩ ∧ lo ≤ g ∧ g < W.heap.size ∧ ∀ (k : Nat) (v : Value), s.cells[k]? = some v → W.cell? ⟨g, off + r * 10 + k, none⟩ = some v
theorem rowS_own {W : World} {lo : Nat} {v : Value} {l : List Stp} (h : W.ownsRow lo 73 10 v l.length (l.flatMap Stp.cells)) : ∃ a cp, v = .slice a l.length cp ∧ RowS W lo a l := by
  rcases h.2 with ⟨rfl, h0⟩ | ⟨g, cap, cur, rfl, hbg, hg, hle, hcm, hcs, htk⟩
  · refine ⟨none, 0, by rw [h0], fun r s hr => ?_⟩
    obtain ⟨hr, -⟩ := List.getElem?_eq_some_iff.1 hr
    omega
  · refine ⟨_, _, rfl, fun r s hr => ⟨g, 0, rfl, hbg, (Array.getElem?_eq_some_iff.1 hg).1, fun k u hk => ?_⟩⟩
    have hk10 : k < 10 := (List.getElem?_eq_some_iff.1 hk).1
    have := h.cells (g := g) rfl (r * 10 + k) u ((flat10 l r s hr k hk10).trans hk)
    rw [add_plain] at this
    rw [show 0 + r * 10 + k = 0 + (r * 10 + k) by omega]
    exact this
theorem RowS.touch {T : Nat → Prop} {W W' : World} {lo : Nat} {a : Option Addr} {l : List Stp} (h : RowS W lo a l) (k : Touch T W W') (hT : ∀ b, lo ≤ b → ¬ T b) : RowS W' lo a l := fun r s hr => by
  obtain ⟨g, off, e, h1, h2, h3⟩ := h r s hr
  exact ⟨g, off, e, h1, Nat.lt_of_lt_of_le h2 k.size, fun q v hv => by rw [World.cell?_of_block (k.block g h2 (hT g h1))]; exact h3 q v hv⟩

theorem flg_join {R R1 R2 : List (List Nat)} (s1 : shp R1 = shp R) (s2 : shp R2 = shp R1) (h1 : LeR R R1) (h2 : LeR R1 R2) : (flg false R1 R || decide (R2 ≠ R1)) = flg false R2 R := by
  unfold flg
  rw [Bool.false_or, Bool.false_or, Bool.eq_iff_iff]
  simp only [Bool.or_eq_true, decide_eq_true_eq]
  constructor
  · rintro h e
    have e1 : R1 = R := LeR.anti s1 (by rw [e] at h2; exact h2) h1
    rcases h with h | h
    · exact h e1
    · exact h (by rw [e, e1])
  · intro h
    by_cases e : R1 = R
    · right; rw [e]; exact h
    · left; exact e
theorem flg_false {R1 R : List (List Nat)} (h : flg false R1 R = false) : R1 = R := by
  unfold flg at h
  simpa using h

/-- Between the steps of a pass. -/
structure Mid (W2 : World) (sb base top : Nat) (c : Cd) (v0 v1 v2 : Value) (V : Nat → Value) (B : Nat → Nat) (l : List Stp) (R : List (List Nat)) (r : Nat) (R1 : List (List Nat)) (W : World) : Prop where
  sol : Sol W sb base top c v0 v1 v2 (flg false R1 R) R1 V B
  low : Low c R1
  le : LeR R R1
  tc : Touch (Own base top sb) W2 W
  cl : R1 = R → ∀ s ∈ l.take r, ∀ t, c.threads[s.i]? = some t → Cl c s.i t R s.x
/-- Between the passes. -/
structure Pass (W2 : World) (sb base top : Nat) (c : Cd) (v0 v1 v2 : Value) (V : Nat → Value) (B : Nat → Nat) (g : Bool) (R : List (List Nat)) (W : World) : Prop where
  sol : Sol W sb base top c v0 v1 v2 g R V B
  low : Low c R
  tc : Touch (Own base top sb) W2 W
  cl : g = false → Closed c R
section
variable {W2 W W' : World} {sb base top : Nat} {c : Cd} {v0 v1 v2 : Value} {V : Nat → Value} {B : Nat → Nat} {l : List Stp} {R R1 R2 : List (List Nat)} {r : Nat} {g : Bool}
theorem Pass.begins (h : Pass W2 sb base top c v0 v1 v2 V B g R W) (hs : Sol W' sb base top c v0 v1 v2 false R V B) (k : Touch (Own base top sb) W W') : Mid W2 sb base top c v0 v1 v2 V B l R 0 R W' :=
  ⟨by rw [flg_self]; exact hs, h.low, LeR.refl _, h.tc.trans k, fun _ s hs => by simp at hs⟩
theorem Mid.step (h : Mid W2 sb base top c v0 v1 v2 V B l R r R1 W) (hL : Low c R) (lo : Nat) (W0 : World) (hA : AllS lo c W0 l) {s : Stp} (hs : l[r]? = some s) {t : Bd} (ht : c.threads[s.i]? = some t) (hG : Grew c s.i t s.x R1 R2) (hS : Sol W' sb base top c v0 v1 v2 (flg false R1 R || decide (R2 ≠ R1)) R2 V B) (k : Touch (Own base top sb) W W') : Mid W2 sb base top c v0 v1 v2 V B l R (r + 1) R2 W' := by
  have s1 : shp R1 = shp R := h.low.1.trans hL.1.symm
  obtain ⟨t', j, h1, h2, -⟩ := hA s (List.mem_of_getElem? hs)
  rw [ht] at h1
  cases h1
  refine ⟨by rw [← flg_join s1 hG.shape h.le hG.le]; exact hS, hG.low h.low ht h2, h.le.trans hG.le, h.tc.trans k, fun e s' hs' t' ht' => ?_⟩
  have e1 : R1 = R := LeR.anti s1 (by rw [← e]; exact hG.le) h.le
  rw [List.take_add_one, List.mem_append] at hs'
  rcases hs' with hs' | hs'
  · exact h.cl e1 s' hs' t' ht'
  · rw [hs] at hs'
    obtain rfl : s' = s := by simpa using hs'
    rw [ht] at ht'
    cases ht'
    have := hG.done (by rw [e, e1])
    rw [e1] at this
    exact this
theorem Mid.ends (h : Mid W2 sb base top c v0 v1 v2 V B l R l.length R1 W) (hL : Low c R) (hG : Got c l c.threads.length 0) : Pass W2 sb base top c v0 v1 v2 V B (flg false R1 R) R1 W :=
  ⟨h.sol, h.low, h.tc, fun e i b hb j x hx => by
    have e1 := flg_false e
    subst e1
    by_cases q : tgtM c b x = true
    · obtain ⟨s, hs, hi, hx'⟩ := hG i b j x hb hx (.inl (List.getElem?_eq_some_iff.1 hb).1) q
      subst hi; subst hx'
      exact h.cl rfl s (by rw [List.take_length]; exact hs) b hb
    · exact cl_none _ (by simpa using q)⟩
def msr (c : Cd) (R : List (List Nat)) (g : Bool) : Nat := 64 * tot (shapeC c) - cntR R + g.toNat
theorem msr_lt (gd : GoodP c) (h1 : Low c R) (h2 : Low c R1) (hl : LeR R R1) : msr c R1 (flg false R1 R) < msr c R true := by
  by_cases e : R1 = R
  · subst e
    rw [flg_self]
    show _ + 0 < _ + 1
    omega
  · have hg := cnt_grows (h1.1.trans h2.1.symm) hl (h1.allU gd) (h2.allU gd) e
    have hle := cntR_le R1
    rw [h2.1] at hle
    have : (flg false R1 R).toNat ≤ 1 := Bool.toNat_le _
    unfold msr
    show _ < _ + 1
    omega
end
theorem ins_forms {c : Cd} {w : World} (hc : c.okW w) {i j : Nat} {t : Bd} {x : Ins} (ht : c.threads[i]? = some t) (hx : t.code[j]? = some x) : ∃ a n p a' n' p', x.iv = .slice a n p ∧ x.xv = .slice a' n' p' := by
  obtain ⟨ta, tp, te, htr⟩ := RowOf.at hc.2.2.1
  obtain ⟨t', tb, toff, ht', -, -, -, tok⟩ := htr i (List.getElem?_eq_some_iff.1 ht).1
  rw [ht] at ht'
  cases ht'
  obtain ⟨ac, pc, ec, hcr⟩ := RowOf.at tok.2.2
  obtain ⟨x', xb, xoff, hx', -, -, -, xok⟩ := hcr j (List.getElem?_eq_some_iff.1 hx).1
  rw [hx] at hx'
  cases hx'
  obtain ⟨ai, pi, ei⟩ := xok.2.1.form
  obtain ⟨ax, px, ex⟩ := xok.2.2.form
  exact ⟨_, _, _, _, _, _, ei, ex⟩
theorem NumsM.lower {w : World} {lo lo' hi : Nat} {v : Value} {l : List Nat} (h : NumsM w lo hi v l) (hh : lo' ≤ lo) : NumsM w lo' hi v l := by
  obtain ⟨a, c, e, h⟩ := h
  refine ⟨a, c, e, fun q hq => ?_⟩
  obtain ⟨b, h1, h2, h2', h3, h4⟩ := h q hq
  exact ⟨b, h1, by omega, h2', h3, h4⟩

theorem size4 : (Tryd.prog.info? 4).map (·.size) = some 1 := by kernel_rfl
theorem Sol.setg {W W' : World} {sb base top : Nat} {c : Cd} {v0 v1 v2 : Value} {g : Bool} {R : List (List Nat)} {V : Nat → Value} {B : Nat → Nat} (h : Sol W sb base top c v0 v1 v2 g R V B) (g' : Bool) (hv : VarAt W' sb ([c.rv, c.gv, c.tv, c.ev, c.cv, v0, v1, v2, .bool g].set 8 (.bool g')) 69) (ht : Turned sb W W') : Sol W' sb base top c v0 v1 v2 g' R V B ∧ Touch (Own base top sb) W W' :=
  ⟨⟨hv, h.sets.touch ht.t1 (fun b h1 h2 e => by have := h.above.1; subst e; omega), h.above.1, by rw [ht.size]; exact h.above.2⟩, ht.t1.mono (fun i _ e => .inr e)⟩
theorem Pass.start {W2 W3 : World} {sb base top : Nat} {c : Cd} {v0 v1 v2 : Value} {R : List (List Nat)} {V : Nat → Value} {B : Nat → Nat} (h : Sol W3 sb base top c v0 v1 v2 true R V B) (hL : Low c R) (k : Touch (Own base top sb) W2 W3) : Pass W2 sb base top c v0 v1 v2 V B true R W3 :=
  ⟨h, hL, k, fun e => by cases e⟩

set_option maxRecDepth 100000 in
set_option maxHeartbeats 2000000 in
theorem solve_any (c : Cd) (w : World) (hc : c.okW w) (hs : SmallP c) (hTab : Tab w) : Calls Tryd.prog 15 #[.agg c.cells.toArray] w (SolveP c w) := by
  obtain ⟨a0, p0, a1, p1, a2, p2, a3, p3, a4, p4, e0, e1, e2, e3, e4⟩ := cd_open hc
  have EC : c.cells = [.slice a0 c.recs.length p0, .slice a1 c.globs.length p1, .slice a2 c.threads.length p2, .slice a3 c.sites.length p3, .slice a4 c.secs.length p4] := by unfold Cd.cells; rw [e0, e1, e2, e3, e4]
  have CG := fun W (h : Below w.heap.size w W) => goodC_any c W (Cd.kept hc h) hs
  have CE := fun (g : GoodP c) W (h : Below w.heap.size w W) => empty_any c W (Cd.kept hc h) g
  have CS := fun (g : GoodP c) W (h : Below w.heap.size w W) => steps_any c W (Cd.kept hc h) g
  rw [EC] at CE CS ⊢
  rw [e0, e1, e2, e3, e4] at CG
  replace CG := hid CG
  replace CE := hid CE
  replace CS := hid CS
  have HC := hid hc
  have E0 := hid e0
  have E1 := hid e1
  have E2 := hid e2
  have E3 := hid e3
  have E4 := hid e4
  have BX := hid (below2 w (.cells #[.slice a0 c.recs.length p0, .slice a1 c.globs.length p1, .slice a2 c.threads.length p2, .slice a3 c.sites.length p3, .slice a4 c.secs.length p4] 41) (.cells #[.slice none 0 0, .slice none 0 0, .slice none 0 0] 29))
  have V0 := hid ((VarAt.new w [.slice a0 c.recs.length p0, .slice a1 c.globs.length p1, .slice a2 c.threads.length p2, .slice a3 c.sites.length p3, .slice a4 c.secs.length p4] 41).past (.cells #[.slice none 0 0, .slice none 0 0, .slice none 0 0] 29))
  have V1 := VarAt.new (w.alloc (.cells #[.slice a0 c.recs.length p0, .slice a1 c.globs.length p1, .slice a2 c.threads.length p2, .slice a3 c.sites.length p3, .slice a4 c.secs.length p4] 41)) [.slice none 0 0, .slice none 0 0, .slice none 0 0] 29
  simp only [World.size_alloc] at V1
  replace V1 := hid V1
  clear e0 e1 e2 e3 e4 hc EC
  by_cases G : GoodP c
  · replace CG := hid (fun W h => (CG.out W h).mono (fun e w' (k : Ans (GoodP c) W e w') => (by
      obtain ⟨q, h1, h2, h3⟩ := k
      obtain rfl : q = true := h2.2 G
      exact ⟨h1, h3⟩ : e = .returned (.bool true) ∧ Below W.heap.size W w')))
    replace CE := hid (CE.out G)
    replace CS := hid (CS.out G)
    replace G := hid G
    go_enter Tryd.func15, Tryd.ntmps15
    go_wp2_with (go_at_call 22; refine Calls.mono (CG.out _ BX.out) ?_; rintro _ w1 ⟨rfl, hk⟩; replace BX := hid (BX.out.trans (hk.mono BX.out.size)); replace V0 := hid (V0.out.kept hk); replace V1 := hid (V1.out.kept hk); clear hk CG; obtain ⟨y0, y1, y2, y3, y4⟩ := cells5 V0.out)
    go_cut [3] (fun t3 wx => ∃ (sb base top : Nat) (v0 v1 v2 : Value) (V : Nat → Value) (B : Nat → Nat), t3 = .pointer (some ⟨sb, 0, none⟩) ∧ Hid (Sol wx sb base top c v0 v1 v2 false (zeroR c) V B) ∧ Hid (w.heap.size + 2 ≤ base ∧ w.heap.size + 2 ≤ sb) ∧ Hid (Below w.heap.size w wx) ∧ Hid (VarAt wx w.heap.size [.slice a0 c.recs.length p0, .slice a1 c.globs.length p1, .slice a2 c.threads.length p2, .slice a3 c.sites.length p3, .slice a4 c.secs.length p4] 41) ∧ Hid (VarAt wx (w.heap.size + 1) [.slice none 0 0, .slice none 0 0, .slice none 0 0] 29))
    case first =>
      refine wp_region_held_drew (S := fun w' : World => w'.cell? ⟨w.heap.size, 0, none⟩ = some (.slice a0 c.recs.length p0) ∧ w'.cell? ⟨w.heap.size, 1, none⟩ = some (.slice a1 c.globs.length p1) ∧ w'.cell? ⟨w.heap.size, 2, none⟩ = some (.slice a2 c.threads.length p2) ∧ w'.cell? ⟨w.heap.size, 3, none⟩ = some (.slice a3 c.sites.length p3) ∧ w'.cell? ⟨w.heap.size, 4, none⟩ = some (.slice a4 c.secs.length p4)) (by kernel_rfl) (cells5 (V0.out.kept (Below.refl _ _).drew)) (fun hHeld => ?_)
      replace V0 := hid (V0.out.kept (Below.refl _ _).drew); replace V1 := hid (V1.out.kept (Below.refl _ _).drew); replace BX := hid BX.out.drew
      have LA := hid (show w.heap.size + 2 ≤ w1.drew.heap.size from V1.out.lt)
      refine wpAnyH_take (i := 0) (oi := { dst := some 11, op := Go.Op.load 41 (Go.Operand.tmp 1), type := 41, pos := "pts.go:28", after := #[], guard := none }) (v := ?_) rfl (by kernel_rfl) (by kernel_rfl) (by kernel_rfl) (fun _ _ _ h => h) (Or.inl ⟨by rfl, ?_⟩) hHeld ?_
      rotate_left
      · intro w0 hSw; (try dsimp only at hSw); go_simp; (try with_reducible rfl)
      try simp only [Act.put, List.setIfInBounds_toArray, List.set_cons_zero, List.set_cons_succ]
      refine wpAnyH_take (i := 1) (oi := { dst := some 12, op := Go.Op.load 41 (Go.Operand.tmp 1), type := 41, pos := "pts.go:28", after := #[], guard := none }) (v := ?_) rfl (by kernel_rfl) (by kernel_rfl) (by kernel_rfl) (fun _ _ _ h => h) (Or.inl ⟨by rfl, ?_⟩) hHeld ?_
      rotate_left
      · intro w0 hSw; (try dsimp only at hSw); go_simp; (try with_reducible rfl)
      try simp only [Act.put, List.setIfInBounds_toArray, List.set_cons_zero, List.set_cons_succ]
      clear hHeld
      refine wpAnyH_ready (rs := [2, 4]) (by kernel_rfl) (by simp) ?_
      refine AllReadyH.cons (o := { dst := some 13, op := Go.Op.call { callee := Go.Callee.value (Go.Operand.func 23), args := #[Go.Operand.tmp 12], argTypes := #[41] }, type := 29, pos := "pts.go:28", after := #[{ on := 1, ground := Go.Ground.data }], guard := none }) rfl (fun K' hK' => ?_) ?_
      · skip
        go_simp
        go_at_call 23
        refine Calls.mono (CE.out _ BX.out) ?_
        rintro _ y ⟨v0, v1, v2, V, B, rfl, sm, hb⟩
        replace BX := hid (BX.out.trans (hb.mono BX.out.size)); replace V0 := hid (V0.out.kept hb); replace V1 := hid (V1.out.kept hb)
        have SM := hid sm
        obtain ⟨s0, n0, c0, s1, n1, c1, s2, n2, c2, rfl, rfl, rfl⟩ := sm.ones
        have HB := hid (Below.size hb)
        clear sm hb
        try simp only [Act.put, List.setIfInBounds_toArray, List.set_cons_zero, List.set_cons_succ]
        refine hK'.out _ _ (cells5 V0.out) (fun hHeld => ?_)
        clear hK' K'
        try simp only [Act.put, List.setIfInBounds_toArray, List.set_cons_zero, List.set_cons_succ]
        refine wpAnyH_take (i := 3) (oi := { dst := some 14, op := Go.Op.build 69 #[(0, Go.Operand.tmp 11), (1, Go.Operand.tmp 13)], type := 69, pos := "pts.go:28", after := #[{ on := 0, ground := Go.Ground.data }, { on := 2, ground := Go.Ground.data }], guard := none }) (v := ?_) rfl (by kernel_rfl) (by kernel_rfl) (by kernel_rfl) (fun _ _ _ h => h) (Or.inl ⟨by rfl, ?_⟩) hHeld ?_
        rotate_left
        · intro w0 hSw; (try dsimp only at hSw); go_simp; (try with_reducible rfl)
        try simp only [Act.put, List.setIfInBounds_toArray, List.set_cons_zero, List.set_cons_succ]
        clear hHeld
        refine wpAnyH_ready (rs := [4]) (by kernel_rfl) (by simp) ?_
        refine AllReadyH.cons (o := { dst := some 3, op := Go.Op.alloc 69, type := 0, pos := "pts.go:28", after := #[], guard := none }) rfl (fun K' hK' => ?_) AllReadyH.nil
        go_simp
        have VS := hid (VarAt.new y [.slice none 0 0, .slice none 0 0, .slice none 0 0, .slice none 0 0, .slice none 0 0, .slice none 0 0, .slice none 0 0, .slice none 0 0, .bool false] 69)
        replace SM := hid (SM.out.kept ((Below.refl _ _).alloc (Nat.le_refl _) (.cells #[.slice none 0 0, .slice none 0 0, .slice none 0 0, .slice none 0 0, .slice none 0 0, .slice none 0 0, .slice none 0 0, .slice none 0 0, .bool false] 69)))
        replace V0 := hid (V0.out.past (.cells #[.slice none 0 0, .slice none 0 0, .slice none 0 0, .slice none 0 0, .slice none 0 0, .slice none 0 0, .slice none 0 0, .slice none 0 0, .bool false] 69)); replace V1 := hid (V1.out.past (.cells #[.slice none 0 0, .slice none 0 0, .slice none 0 0, .slice none 0 0, .slice none 0 0, .slice none 0 0, .slice none 0 0, .slice none 0 0, .bool false] 69)); replace BX := hid (BX.out.alloc BX.out.size (.cells #[.slice none 0 0, .slice none 0 0, .slice none 0 0, .slice none 0 0, .slice none 0 0, .slice none 0 0, .slice none 0 0, .slice none 0 0, .bool false] 69))
        try simp only [Act.put, List.setIfInBounds_toArray, List.set_cons_zero, List.set_cons_succ]
        refine hK'.out _ _ (cells5 V0.out) (fun hHeld => ?_)
        clear hK' K'
        try simp only [Act.put, List.setIfInBounds_toArray, List.set_cons_zero, List.set_cons_succ]
        clear hHeld
        refine wpAnyH_ready (rs := [5]) (by kernel_rfl) (by simp) ?_
        refine AllReadyH.cons (o := { dst := none, op := Go.Op.store 69 (Go.Operand.tmp 3) (Go.Operand.tmp 14), type := 0, pos := "pts.go:28", after := #[{ on := 4, ground := Go.Ground.data }, { on := 3, ground := Go.Ground.data }, { on := 2, ground := Go.Ground.chain }, { on := 0, ground := Go.Ground.phase }, { on := 1, ground := Go.Ground.phase }, { on := 2, ground := Go.Ground.phase }, { on := 3, ground := Go.Ground.phase }, { on := 4, ground := Go.Ground.phase }], guard := none }) rfl (fun K' hK' => ?_) AllReadyH.nil
        refine step_store 69 _ _ (by rfl) (by rfl) _ (by rfl) [.slice a0 c.recs.length p0, .slice a1 c.globs.length p1, .slice a2 c.threads.length p2, .slice a3 c.sites.length p3, .slice a4 c.secs.length p4, .slice s0 n0 c0, .slice s1 n1 c1, .slice s2 n2 c2, .bool false] (by rfl) size60 (ones9 _ _ _ _ _ _ _ _ _ _ _ _ _ _ _ _ _ _ _ _ _ _ _ _ _) _ 69 VS.out rfl rfl ?_
        intro z hv ht
        have sl := sol_new (c := c) (by rw [E0.out, E1.out, E2.out, E3.out, E4.out]; exact hv) ht SM.out (Or.inl (Nat.le_refl _)) (Nat.le_of_lt (lt_alloc _ _))
        have SL := hid sl
        have LC := hid (And.intro LA.out (Nat.le_trans LA.out HB.out))
        replace BX := hid (ht.below BX.out (Nat.le_trans (Nat.le_add_right _ 2) LC.out.2)); replace V0 := hid (ht.var V0.out (by have := LC.out.2; omega)); replace V1 := hid (ht.var V1.out (by have := LC.out.2; omega))
        clear hv ht sl SM VS LA HB
        refine hK'.out _ _ (cells5 V0.out) (fun hHeld => ?_)
        clear hK' K'
        try simp only [Act.put, List.setIfInBounds_toArray, List.set_cons_zero, List.set_cons_succ]
        refine wpAnyH_done (by kernel_rfl) ?_ _
        go_wp2_with fail
        go_meet
        case rel => exact ⟨_, _, _, _, _, _, _, _, rfl, SL, LC, BX, V0, V1⟩
      refine AllReadyH.cons (o := { dst := some 3, op := Go.Op.alloc 69, type := 0, pos := "pts.go:28", after := #[], guard := none }) rfl (fun K' hK' => ?_) AllReadyH.nil
      go_simp
      have VS := hid (VarAt.new w1.drew [.slice none 0 0, .slice none 0 0, .slice none 0 0, .slice none 0 0, .slice none 0 0, .slice none 0 0, .slice none 0 0, .slice none 0 0, .bool false] 69)
      replace V0 := hid (V0.out.past (.cells #[.slice none 0 0, .slice none 0 0, .slice none 0 0, .slice none 0 0, .slice none 0 0, .slice none 0 0, .slice none 0 0, .slice none 0 0, .bool false] 69)); replace V1 := hid (V1.out.past (.cells #[.slice none 0 0, .slice none 0 0, .slice none 0 0, .slice none 0 0, .slice none 0 0, .slice none 0 0, .slice none 0 0, .slice none 0 0, .bool false] 69)); replace BX := hid (BX.out.alloc BX.out.size (.cells #[.slice none 0 0, .slice none 0 0, .slice none 0 0, .slice none 0 0, .slice none 0 0, .slice none 0 0, .slice none 0 0, .slice none 0 0, .bool false] 69))
      try simp only [Act.put, List.setIfInBounds_toArray, List.set_cons_zero, List.set_cons_succ]
      refine hK'.out _ _ (cells5 V0.out) (fun hHeld => ?_)
      clear hK' K'
      try simp only [Act.put, List.setIfInBounds_toArray, List.set_cons_zero, List.set_cons_succ]
      clear hHeld
      refine wpAnyH_ready (rs := [2]) (by kernel_rfl) (by simp) ?_
      refine AllReadyH.cons (o := { dst := some 13, op := Go.Op.call { callee := Go.Callee.value (Go.Operand.func 23), args := #[Go.Operand.tmp 12], argTypes := #[41] }, type := 29, pos := "pts.go:28", after := #[{ on := 1, ground := Go.Ground.data }], guard := none }) rfl (fun K' hK' => ?_) AllReadyH.nil
      go_simp
      go_at_call 23
      refine Calls.mono (CE.out _ BX.out) ?_
      rintro _ y ⟨v0, v1, v2, V, B, rfl, sm, hb⟩
      replace BX := hid (BX.out.trans (hb.mono BX.out.size)); replace V0 := hid (V0.out.kept hb); replace V1 := hid (V1.out.kept hb)
      replace VS := hid (VS.out.kept hb)
      have SM := hid sm
      obtain ⟨s0, n0, c0, s1, n1, c1, s2, n2, c2, rfl, rfl, rfl⟩ := sm.ones
      have HB := hid (Below.size hb)
      clear sm hb
      try simp only [Act.put, List.setIfInBounds_toArray, List.set_cons_zero, List.set_cons_succ]
      refine hK'.out _ _ (cells5 V0.out) (fun hHeld => ?_)
      clear hK' K'
      try simp only [Act.put, List.setIfInBounds_toArray, List.set_cons_zero, List.set_cons_succ]
      refine wpAnyH_take (i := 3) (oi := { dst := some 14, op := Go.Op.build 69 #[(0, Go.Operand.tmp 11), (1, Go.Operand.tmp 13)], type := 69, pos := "pts.go:28", after := #[{ on := 0, ground := Go.Ground.data }, { on := 2, ground := Go.Ground.data }], guard := none }) (v := ?_) rfl (by kernel_rfl) (by kernel_rfl) (by kernel_rfl) (fun _ _ _ h => h) (Or.inl ⟨by rfl, ?_⟩) hHeld ?_
      rotate_left
      · intro w0 hSw; (try dsimp only at hSw); go_simp; (try with_reducible rfl)
      try simp only [Act.put, List.setIfInBounds_toArray, List.set_cons_zero, List.set_cons_succ]
      clear hHeld
      refine wpAnyH_ready (rs := [5]) (by kernel_rfl) (by simp) ?_
      refine AllReadyH.cons (o := { dst := none, op := Go.Op.store 69 (Go.Operand.tmp 3) (Go.Operand.tmp 14), type := 0, pos := "pts.go:28", after := #[{ on := 4, ground := Go.Ground.data }, { on := 3, ground := Go.Ground.data }, { on := 2, ground := Go.Ground.chain }, { on := 0, ground := Go.Ground.phase }, { on := 1, ground := Go.Ground.phase }, { on := 2, ground := Go.Ground.phase }, { on := 3, ground := Go.Ground.phase }, { on := 4, ground := Go.Ground.phase }], guard := none }) rfl (fun K' hK' => ?_) AllReadyH.nil
      refine step_store 69 _ _ (by rfl) (by rfl) _ (by rfl) [.slice a0 c.recs.length p0, .slice a1 c.globs.length p1, .slice a2 c.threads.length p2, .slice a3 c.sites.length p3, .slice a4 c.secs.length p4, .slice s0 n0 c0, .slice s1 n1 c1, .slice s2 n2 c2, .bool false] (by rfl) size60 (ones9 _ _ _ _ _ _ _ _ _ _ _ _ _ _ _ _ _ _ _ _ _ _ _ _ _) _ 69 VS.out rfl rfl ?_
      intro z hv ht
      have sl := sol_new (c := c) (by rw [E0.out, E1.out, E2.out, E3.out, E4.out]; exact hv) ht SM.out (Or.inr (lt_alloc1 _ _)) (Nat.le_refl _)
      have SL := hid sl
      have LC := hid (And.intro (Nat.le_trans LA.out (Nat.le_of_lt (lt_alloc1 w1 (.cells #[.slice none 0 0, .slice none 0 0, .slice none 0 0, .slice none 0 0, .slice none 0 0, .slice none 0 0, .slice none 0 0, .slice none 0 0, .bool false] 69)))) LA.out)
      replace BX := hid (ht.below BX.out (Nat.le_trans (Nat.le_add_right _ 2) LC.out.2)); replace V0 := hid (ht.var V0.out (by have := LC.out.2; omega)); replace V1 := hid (ht.var V1.out (by have := LC.out.2; omega))
      clear hv ht sl SM VS LA HB
      refine hK'.out _ _ (cells5 V0.out) (fun hHeld => ?_)
      clear hK' K'
      try simp only [Act.put, List.setIfInBounds_toArray, List.set_cons_zero, List.set_cons_succ]
      refine wpAnyH_done (by kernel_rfl) ?_ _
      go_wp2_with fail
      go_meet
      case rel => exact ⟨_, _, _, _, _, _, _, _, rfl, SL, LC, BX, V0, V1⟩
    case rest =>
      obtain ⟨sb, base, top, v0, v1, v2, V, B, rfl, SL, LC, BX, V0, V1⟩ := hcut
      clear y0 y1 y2 y3 y4 CE
      obtain ⟨y0, y1, y2, y3, y4⟩ := cells5 V0.out
      have LO := hid (show max top (sb + 1) ≤ wc.heap.size + 1 from Nat.max_le.2 ⟨Nat.le_succ_of_le SL.out.above.2, Nat.le_succ_of_le SL.out.box.lt⟩)
      go_wp2_with (first
        | (go_at_call 24; refine Calls.mono (CS.out _ BX.out) ?_; rintro _ W2 ⟨u, l, rfl, hown, hall, -, hgot, hlen, hk⟩; obtain ⟨ua, up, rfl, hrow⟩ := rowS_own hown; have HR := hid hrow; have HA := hid hall; have HG := hid hgot; replace BX := hid (BX.out.trans (hk.mono BX.out.size)); replace V0 := hid (V0.out.kept hk); replace V1 := hid (V1.out.kept hk); replace SL := hid (SL.out.kept hk); clear hown hall hrow hgot hk CS y0 y1 y2 y3 y4)
        | (refine wl_store_cell 4 _ _ rfl rfl sb 8 rfl (.bool true) rfl size4 rfl _ _ SL.out.box (by simp) ?_; intro W3 hv ht))
      have st := SL.out.setg true hv ht
      have PS := hid (Pass.start st.1 (low_zero c) st.2)
      clear st hv ht SL
      try simp only [Act.put]
      go_loopg [] (msr c (zeroR c) true) (fun k wr => ∃ (g : Bool) (R : List (List Nat)), k = msr c R g ∧ Hid (Pass W2 sb base top c v0 v1 v2 V B g R wr))
      case atStart => exact ⟨true, _, rfl, PS⟩
      case round =>
        obtain ⟨g, R, rfl, PR⟩ := hrel
        clear PS
        have d8 := PR.out.sol.box.cell 8 (v := .bool g) rfl
        cases g with
        | false =>
          obtain ⟨s0, n0, c0, s1, n1, c1, s2, n2, c2, rfl, rfl, rfl⟩ := PR.out.sol.sets.ones
          have d5 := PR.out.sol.box.cell 5 (v := .slice s0 n0 c0) rfl
          have d6 := PR.out.sol.box.cell 6 (v := .slice s1 n1 c1) rfl
          have d7 := PR.out.sol.box.cell 7 (v := .slice s2 n2 c2) rfl
          have V2 := hid (V1.out.touch PR.out.tc (by have := LC.out; rintro (q | q) <;> omega))
          go_wp2_with (refine wl_store_box 29 _ _ rfl rfl (w.heap.size + 1) rfl [.slice s0 n0 c0, .slice s1 n1 c1, .slice s2 n2 c2] rfl size35 (ones3 rfl rfl rfl) _ _ V2.out rfl rfl ?_; intro w2 hv ht)
          try simp only [Act.put]
          refine bodyPost_ret (results_cell_row rfl _ _ (w.heap.size + 1) _ _ _ _ rfl hv Tryd.underlying29 rfl (by kernel_rfl)) rfl ?_
          have hb := LC.out
          have bl := BX.out.trans (PR.out.tc.below (B := w.heap.size) (fun i hi => ⟨Nat.lt_of_lt_of_le hi BX.out.size, by rintro (q | q) <;> omega⟩))
          exact ⟨_, _, _, rfl, ht.below bl (by omega), fun _ => ⟨R, V, B, (PR.out.sol.sets.touch ht.t1 (fun b h1 h2 e => by omega)).wide (by omega) (by have := ht.size; have := PR.out.sol.above.2; omega), PR.out.low, PR.out.cl rfl⟩, fun g => absurd G.out g⟩
        | true =>
          obtain ⟨wo, rfl⟩ : ∃ wo : World, wo = wr := ⟨wr, rfl⟩
          go_wp2_with (refine wl_store_cell 4 _ _ rfl rfl sb 8 rfl (.bool false) rfl size4 rfl _ _ PR.out.sol.box (by simp) ?_; intro W3 hv ht)
          have st := PR.out.sol.setg false hv ht
          have MD := hid (PR.out.begins (l := l) st.1 st.2)
          have PL := hid PR.out.low
          clear st hv ht PR d8
          try simp only [Act.put]
          go_loopg [23] (l.length) (fun k tt wr => ∃ (r : Nat) (R1 : List (List Nat)), tt = .int .i64 r ∧ r ≤ l.length ∧ k = l.length - r ∧ Hid (Mid W2 sb base top c v0 v1 v2 V B l R r R1 wr))
          case atStart => exact ⟨0, R, rfl, by omega, rfl, MD⟩
          case round =>
            obtain ⟨r, R1, rfl, hr, rfl, MR⟩ := hrel
            clear MD
            by_cases hin : r < l.length
            · obtain ⟨s, hs⟩ : ∃ s, l[r]? = some s := ⟨_, List.getElem?_eq_getElem hin⟩
              obtain ⟨gb, off, rfl, hlo, hgb, hce⟩ := HR.out r s hs
              obtain ⟨t, j, hth, hx, htg, hus, hnm⟩ := HA.out s (List.mem_of_getElem? hs)
              obtain ⟨ia, ii, ip, xa, xi, xp, ei, ex⟩ := ins_forms HC.out hth hx
              have hnm' := hnm
              obtain ⟨na, nc, en, -⟩ := hnm'
              have ec : s.cells = [.int .i64 s.x.op, .int .i64 s.x.dst, .int .i64 s.x.src, .int .i64 s.x.rc, .int .i64 s.x.n, .int .i64 s.x.to, .slice ia ii ip, .slice xa xi xp, .int .i64 (s.i : Int), .slice na s.l.length nc] := by
                unfold Stp.cells; rw [ei, ex, en]
              have hnotT : ∀ b, wc.heap.size + 1 ≤ b → ¬ Own base top sb b := fun b hb => by
                have := LO.out
                rintro (q | q) <;> omega
              have CD : ∀ X, Below wr.heap.size wr X → Calls Tryd.prog 25 #[.pointer (some ⟨sb, 0, none⟩), .agg s.cells.toArray] X fun e W' => e = .returned (.tuple #[]) ∧ ∃ R2, Sol W' sb base top c v0 v1 v2 (flg false R1 R || decide (R2 ≠ R1)) R2 V B ∧ Grew c s.i t s.x R1 R2 ∧ Touch (Own base top sb) X W' := fun X hX =>
                have tX : Touch (Own base top sb) W2 X := MR.out.tc.trans (Touch.of_below hX)
                have bX : Below w.heap.size w X := BX.out.trans (tX.below (B := w.heap.size) (fun i hi => ⟨Nat.lt_of_lt_of_le hi BX.out.size, by have := LC.out; rintro (q | q) <;> omega⟩))
                do_any ⟨MR.out.sol.kept hX, G.out, MR.out.low, hth, ⟨j, hx⟩, hus, ((hnm.touch tX (fun b h1 _ => hnotT b h1)).mono tX.size).lower LO.out, htg⟩ (hTab.below bX hTab.lt) (by have := LC.out; omega) (by have := LC.out; omega) w (by have := LC.out; omega) (by have := LC.out; omega) HC.out.2.2.2.1 bX
              rw [ec] at CD
              replace CD := hid CD
              have xc : ∀ (k : Nat) (v : Value), s.cells[k]? = some v → wr.cell? ⟨gb, off + r * 10 + k, none⟩ = some v := fun k v hv => by
                rw [World.cell?_of_block (MR.out.tc.block gb hgb (hnotT gb hlo))]; exact hce k v hv
              rw [ec] at xc
              have x0 : wr.cell? ⟨gb, off + r * 10, none⟩ = some (.int .i64 s.x.op) := xc 0 _ rfl
              have x1 := xc 1 _ rfl
              have x2 := xc 2 _ rfl
              have x3 := xc 3 _ rfl
              have x4 := xc 4 _ rfl
              have x5 := xc 5 _ rfl
              have x6 := xc 6 _ rfl
              have x7 := xc 7 _ rfl
              have x8 := xc 8 _ rfl
              have x9 := xc 9 _ rfl
              clear xc hce hnotT hlo hgb hnm hus ei ex en ec
              replace hth := hid hth
              replace hs := hid hs
              go_wp2_with (go_at_call 25; refine Calls.mono (CD.out _ ((Below.refl _ _).alloc (Nat.le_refl _) _)) ?_; rintro _ W4 ⟨rfl, R2, hS, hG, hT⟩; have MN := hid (MR.out.step PL.out _ W2 HA.out hs.out hth.out hG hS ((Touch.of_below ((Below.refl _ _).alloc (Nat.le_refl _) _)).trans hT)); clear hS hG hT CD MR)
              go_roundg (l.length - (r + 1))
              case measure => omega
              case rel => exact ⟨r + 1, R2, by go_num, by omega, rfl, MN⟩
            · obtain rfl : r = l.length := by omega
              have PE := hid (MR.out.ends PL.out HG.out)
              have hms := hid (msr_lt G.out PL.out MR.out.low MR.out.le)
              clear MR
              go_wp2_with fail
              go_roundg (msr c R1 (flg false R1 R))
              case measure => exact hms.out
              case rel => exact ⟨_, R1, rfl, PE⟩
  · replace CG := hid (fun W h => (CG.out W h).mono (fun e w' (k : Ans (GoodP c) W e w') => (by
      obtain ⟨q, h1, h2, h3⟩ := k
      obtain rfl : q = false := by cases q; rfl; exact absurd (h2.1 rfl) G
      exact ⟨h1, h3⟩ : e = .returned (.bool false) ∧ Below W.heap.size W w')))
    replace G := hid G
    clear CE CS
    go_enter Tryd.func15, Tryd.ntmps15
    go_wp2_with (first
      | (go_at_call 22; refine Calls.mono (CG.out _ BX.out) ?_; rintro _ w1 ⟨rfl, hk⟩; replace BX := hid (BX.out.trans (hk.mono BX.out.size)); replace V0 := hid (V0.out.kept hk); replace V1 := hid (V1.out.kept hk); clear hk CG)
      | (refine wl_store_box 29 _ _ rfl rfl (w.heap.size + 1) rfl [.slice none 0 0, .slice none 0 0, .slice none 0 0] rfl size35 (ones3 rfl rfl rfl) _ _ V1.out rfl rfl ?_; intro w2 hv ht))
    try simp only [Act.put]
    refine bodyPost_ret (results_cell_row rfl _ _ (w.heap.size + 1) _ _ _ _ rfl hv Tryd.underlying29 rfl (by kernel_rfl)) rfl ?_
    exact ⟨_, _, _, rfl, ht.below BX.out (by omega), fun g => absurd g G.out, fun _ => ⟨rfl, rfl, rfl⟩⟩
end Go.Proofs.YtdpbapoahfggeaaDoor
