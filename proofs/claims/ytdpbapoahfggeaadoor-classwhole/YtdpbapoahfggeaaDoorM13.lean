/- Sp, Ae, Alive, Av -/
import Derived.Test.YtdpbapoahfggeaaDoorM11
import Derived.Test.YtdpbapoahfggeaaDoorM12
/- The contract of Split. -/
namespace Go.Proofs.YtdpbapoahfggeaaDoor
open Go.ChangeShapes Go.WideShapes Go.ChangeAt Go.RowKit
set_option linter.unusedVariables false
set_option linter.unusedSimpArgs false

def cellsI (l : List Nat) : List Value := l.map iV
theorem cellsI_at {l : List Nat} {j : Nat} (h : j < l.length) : (cellsI l)[j]? = some (.int .i64 ((l.getD j 0 : Nat) : Int)) := by
  unfold cellsI
  simp [List.getD, h, iV]
theorem cellsI_set (l : List Nat) (j v : Nat) : (cellsI l).set j (.int .i64 (v : Int)) = cellsI (l.set j v) := by
  unfold cellsI
  rw [List.map_set]
  rfl
theorem VarAt.intR {w : World} {b : Nat} {l : List Nat} {t : TypeId} (h : VarAt w b (cellsI l) t) (c : Nat) (hl : l.length ≤ 9223372036854775807) : IntR w (.slice (some ⟨b, 0, none⟩) l.length c) l :=
  ⟨_, c, by rw [List.length_map], by simpa using hl, fun i u hu => ⟨b, 0, rfl, h.lt, by rw [Nat.zero_add]; exact h.cell i hu⟩⟩
theorem made_zeroI (n : Nat) : madeCells #[.int .i64 0] (n * 1) = (cellsI (List.replicate n 0)).toArray := by
  apply Array.ext
  · simp [madeCells, cellsI]
  · intro i h1 h2
    simp [madeCells, cellsI, iV, Nat.mod_one]
theorem info3i : (Tryd.prog.info? 3).map (fun i => (i.zero, i.size, i.bytes)) = some (some (.int .i64 0), 1, 8) := by kernel_rfl
theorem run_makeI (n : Nat) (hn : n ≤ 1000) (w : World) : (Instr.makeSlice 25 (.int .i64 (n : Int)) (.int .i64 (n : Int))).run Tryd.prog w = .ok (.slice (some ⟨w.heap.size, 0, none⟩) n n) (w.alloc (.cells (cellsI (List.replicate n 0)).toArray 3)) := by
  obtain ⟨i, hi, z0, z1, z2⟩ := info_parts info3i
  have := run_make (P := Tryd.prog) w 25 3 i _ Tryd.underlying25 hi z0 .i64 .i64 (n : Int) (n : Int) (by omega) (by omega) (by rw [z2]; omega) (by omega)
  rw [z1] at this
  simp only [Int.toNat_natCast] at this
  rw [this]
  simp only [Value.cells]
  rw [made_zeroI]

/-- While classes are given. -/
structure SpW (w : World) (m : Nat) (g l : List Nat) (X : World) : Prop where
  bg : VarAt X m (cellsN g) 48
  bl : VarAt X (m + 1) (cellsI l) 3
  bel : Below w.heap.size w X
  lo : w.heap.size ≤ m
theorem SpW.kept {w : World} {m : Nat} {g l : List Nat} {X X' : World} (h : SpW w m g l X) (k : Below X.heap.size X X') : SpW w m g l X' := ⟨h.bg.kept k, h.bl.kept k, h.bel.trans (k.mono h.bel.size), h.lo⟩
theorem SpW.put {w : World} {m : Nat} {g l : List Nat} {X : World} (h : SpW w m g l X) (k v : Nat) : SpW w m g (l.set k v) (X.setCell ⟨m + 1, k, none⟩ (.int .i64 (v : Int))) := by
  have t : Touch (fun i => i = m + 1) X (X.setCell ⟨m + 1, k, none⟩ (.int .i64 (v : Int))) := Touch.setCell _ _ _ rfl
  refine ⟨h.bg.touch t (by omega), ?_, below_touch h.bel t (fun i hi => by have := h.lo; omega), h.lo⟩
  rw [← cellsI_set]
  exact h.bl.set k _

set_option maxRecDepth 100000 in
set_option maxHeartbeats 1000000 in
theorem split_any (n : Nat) (hn : n ≤ 64) (hn1 : 1 ≤ n) (v0 v1 v2 : Value) (S : List (List Nat)) (l1 : List Nat) (F : List (List Nat)) (w : World) (h0 : RowsR w v0 S) (h1 : NumR w v1 l1) (h2 : RowsR w v2 F)
    (sS : Sm64 S) (s1 : Sm64 [l1]) (sF : Sm64 F) (hTab : Tab w) :
    Calls Tryd.prog 8 #[.int .i64 (n : Int), .agg #[v0, v1, v2]] w fun e w' => ∃ v l, e = .returned v ∧ IntR w' v l ∧ NumS n (S.flatten ++ l1 ++ F.flatten) l ∧ Below w.heap.size w w' := by
  have BZ := (Below.refl w.heap.size w).alloc (Nat.le_refl _) (.cells #[v0, v1, v2] 29)
  have C := hid (joined_any n hn v0 v1 v2 S l1 F (w.alloc (.cells #[v0, v1, v2] 29)) (h0.kept BZ) (h1.kept BZ) (h2.kept BZ) sS s1 sF (hTab.kept BZ))
  have mk := hid (fun W => run_makeI n (by omega) W)
  replace hTab := hid hTab
  obtain ⟨a0, c0, rfl, -⟩ := h0.open
  obtain ⟨a1, c1, rfl, -⟩ := h1.open
  obtain ⟨a2, c2, rfl, -⟩ := h2.open
  clear h0 h1 h2 sS s1 sF
  have hsI : (Tryd.prog.info? 48).map (·.size) = some 64 := by kernel_rfl
  have hnI : ¬ (n : Int) < 1 := by omega
  have FL : ∀ g : List Nat, g.length = 64 → (cellsN (onesK 0)).length = (cellsN g).length ∧ (Tryd.prog.info? 48).map (·.size) = some (cellsN g).length := fun g hg => ⟨by rw [cellsN_len, cellsN_len, onesK_len, hg], by rw [cellsN_len, hg]; exact hsI⟩
  replace BZ := hid BZ
  go_enter Tryd.func8, Tryd.ntmps8
  go_wp2_with (first
    | (go_at_call 17; refine Calls.mono C.out ?_; rintro _ w1 ⟨g, rfl, hg, hb⟩; have GG := hid hg; have B1 := hid (BZ.out.trans (hb.mono BZ.out.size)); clear hg hb)
    | (refine wl_store_all 48 _ _ rfl rfl w1.heap.size rfl (cellsN g) rfl (FL _ GG.out.1).2 (cellsN_one g) (cellsN (onesK 0)) 48 (VarAt.new w1 (cellsN (onesK 0)) 48) (FL _ GG.out.1).1 ?_; intro w2 hv ht; have s2 : w2.heap.size = w1.heap.size + 1 := ht.size.trans (World.size_alloc _ _); have B2 := hid (ht.below (B1.out.alloc B1.out.size _) B1.out.size); have mw := mk.out w2; replace hv := hid hv; have lo := B1.out.size; clear ht B1))
  have VI := VarAt.new w2 (cellsI (List.replicate n 0)) 3
  have BN := (Below.refl w2.heap.size w2).alloc (Nat.le_refl _) (.cells (cellsI (List.replicate n 0)).toArray 3)
  have J0 : SpW w w1.heap.size g (List.replicate n 0) (w2.alloc (.cells (cellsI (List.replicate n 0)).toArray 3)) := ⟨hv.out.kept BN, by rw [s2] at VI; exact VI, B2.out.trans (BN.mono B2.out.size), lo⟩
  try rw [s2]
  generalize w2.alloc (.cells (cellsI (List.replicate n 0)).toArray 3) = Y at *
  generalize w1.heap.size = m at *
  generalize hL : S.flatten ++ l1 ++ F.flatten = L at *
  clear VI BN hv B2 mw mk C BZ FL hsI
  replace J0 := hid J0
  go_loopw [7, 18] (fun t7 t18 wr => ∃ (k last : Nat) (l : List Nat), t7 = .int .i64 (last : Int) ∧ t18 = .int .i64 (k : Int) ∧ k ≤ n ∧ last ≤ k ∧ Hid (SpW w m g l wr) ∧ Hid (NumK n L l k last)) (fun _ t _ => n - (intOf t).toNat)
  case atStart => exact ⟨0, 0, _, rfl, rfl, by omega, by omega, J0, hid (numK_start n L)⟩
  case round =>
    clear J0
    obtain ⟨k, last, l, rfl, rfl, hk, hlk, J, K⟩ := hrel
    by_cases hkn : k < n
    · have xg := J.out.bg.cell k (cellsN_at (by have := GG.out.1; omega))
      have hx := GG.out.lt k
      have nx := hid (numK_next K.out hkn hn GG.out)
      have hll := K.out.len
      have IR := J.out.bl.intR n (by omega)
      rw [hll] at IR
      rw [p64] at hx
      have C := hid (of_any (g.getD k 0) hx _ l wr IR (hTab.out.kept J.out.bel))
      generalize g.getD k 0 = x at *
      have hkI : (k : Int) < (n : Int) := by omega
      have hk64 : (k : Int) < 64 := by omega
      have YC := hid (fun X (h : SpW w m g l X) => (⟨h.bl.cell k (cellsI_at (by omega)), h.bl.frozen k⟩ : _ ∧ _))
      generalize l.getD k 0 = lk at *
      by_cases hc : ofL x l = 0
      · have nk := hid (nx.out.2 hc)
        rw [hc] at C
        clear nx GG hTab hx IR K
        go_wp2_with (go_at_call 12; refine Calls.mono C.out ?_; rintro _ w' ⟨rfl, hb⟩; have J2 := hid (J.out.kept hb); have yc := (YC.out _ J2.out).1; have yf := (YC.out _ J2.out).2; clear hb C)
        go_roundw
        case rel =>
          refine ⟨k + 1, last + 1, l.set k (last + 1), by go_num, by go_num, by omega, by omega, hid ?_, nk⟩
          have := (J2.out.put k 0).put k (last + 1)
          rw [List.set_set] at this
          simpa using this
        case measure => simp [intOf]; omega
      · have nk := hid (nx.out.1 hc)
        generalize ofL x l = c at *
        have hcI : ¬ ((c : Int) = 0) := by omega
        clear nx GG hTab hx IR K
        go_wp2_with (go_at_call 12; refine Calls.mono C.out ?_; rintro _ w' ⟨rfl, hb⟩; have J2 := hid (J.out.kept hb); have yc := (YC.out _ J2.out).1; have yf := (YC.out _ J2.out).2; clear hb C)
        go_roundw
        case rel => exact ⟨k + 1, last, l.set k c, by go_num, by go_num, by omega, by omega, hid (J2.out.put k c), nk⟩
        case measure => simp [intOf]; omega
    · have e : k = n := by omega
      subst e
      have nk := numK_end K.out
      have JJ := J.out
      clear GG hTab J K
      go_wp2_with fail
      go_ret
      have IR := JJ.bl.intR k (by have := nk.len; omega)
      rw [nk.len] at IR
      exact ⟨_, l, rfl, IR, hL ▸ nk, JJ.bel⟩
/-- Of no site there is none. -/
theorem split_none (n : Int) (hn : n < 1) (a0 a1 a2 : Option Addr) (n0 n1 n2 c0 c1 c2 : Nat) (w : World) :
    Calls Tryd.prog 8 #[.int .i64 n, .agg #[.slice a0 n0 c0, .slice a1 n1 c1, .slice a2 n2 c2]] w fun e w' => e = .returned (.slice none 0 0) ∧ Below w.heap.size w w' := by
  have BZ := hid ((Below.refl w.heap.size w).alloc (Nat.le_refl _) (.cells #[.slice a0 n0 c0, .slice a1 n1 c1, .slice a2 n2 c2] 29))
  go_enter Tryd.func8, Tryd.ntmps8
  go_wp2_with fail
  go_ret
  exact ⟨rfl, BZ.out⟩
end Go.Proofs.YtdpbapoahfggeaaDoor
/- The statements' example: three sites, a set of 0 and 2. -/
namespace Go.Proofs.YtdpbapoahfggeaaDoor
open Go.ChangeShapes Go.WideShapes Go.ChangeAt Go.RowKit Go.Deep
set_option linter.unusedVariables false
set_option linter.unusedSimpArgs false

theorem ex_nums {l : List Nat} (h : NumS 3 [5, 0] l) : l = [1, 2, 1] := by
  have hl := h.len
  match l, hl with
  | [a, b, c], _ =>
  have p0 := h.pos 0 (by decide)
  have p1 := h.pos 1 (by decide)
  have s02 := (h.same 0 2 (by decide) (by decide)).2 (Jo.one (by decide))
  have s01 := (h.same 1 0 (by decide) (by decide)).1
  have no : ¬ Jo 3 [5, 0] 1 0 := fun j => by
    have := j (fun x => x = 1) rfl (fun x y hx hm => by
      subst hx
      rw [meet_iff] at hm
      obtain ⟨_, _, z, hz, h1, _⟩ := hm
      simp at hz
      rcases hz with rfl | rfl
      · exact absurd h1 (by decide)
      · exact absurd h1 (by decide))
    cases this
  have l0 := h.low 0 (by decide) 1 (Nat.le_refl _)
  have l1 := h.low 1 (by decide) 2 (by decide)
  simp at p0 p1 s02 s01 l0 l1
  have ea : a = 1 := by omega
  subst ea
  have hb1 : b ≠ 1 := fun e => no (s01 e)
  have hb2 : ¬ 2 < b := fun q => by
    have := l1 q
    omega
  have : b = 2 := by omega
  subst this
  rw [← s02]

set_option maxRecDepth 100000 in
set_option maxHeartbeats 1000000 in
theorem alivec_any (w : World) (hTab : Tab w) : Calls Tryd.prog 7 #[] w fun e w' => e = .returned (.bool true) ∧ Below w.heap.size w w' := by
  have V := VarAt.new w [.int .u64 5, .int .u64 0] 23
  have BX := (Below.refl w.heap.size w).alloc (Nat.le_refl _) (.cells #[.int .u64 5, .int .u64 0] 23)
  have NR : NumR (w.alloc (.cells #[.int .u64 5, .int .u64 0] 23)) (.slice (some ⟨w.heap.size, 0, none⟩) 2 2) [5, 0] := ⟨_, _, rfl, by simp, fun i u hu => ⟨_, 0, rfl, V.lt, by rw [Nat.zero_add]; exact V.cell i hu⟩⟩
  have R0 : RowsR (w.alloc (.cells #[.int .u64 5, .int .u64 0] 23)) (.slice none 0 0) [] := ⟨[], ⟨_, _, rfl, by simp, fun i u hu => by simp at hu⟩, rfl, fun i u l hu => by simp at hu⟩
  have C := split_any 3 (by decide) (by decide) _ _ _ [] [5, 0] [] _ R0 NR R0 (fun l hl => by cases hl) (fun l hl x hx => by simp at hl; subst hl; simp at hx; omega) (fun l hl => by cases hl) (hTab.kept BX)
  have CO := hid (fun (x : Nat) (hx : x < 18446744073709551616) v l W (k : Below w.heap.size w W) (hv : IntR W v l) => of_any x hx v l W hv (hTab.kept k))
  replace C := hid C
  replace BX := hid BX
  have o4 : ofL 4 [1, 2, 1] = 1 := by decide
  have o0 : ofL 0 [1, 2, 1] = 0 := by decide
  replace o4 := hid o4
  replace o0 := hid o0
  clear V NR R0 hTab
  go_enter Tryd.func7, Tryd.ntmps7
  go_wp2_with (first
    | (go_at_call 8; refine Calls.mono C.out ?_; rintro _ w1 ⟨v, l, rfl, hI, hN, hb⟩; obtain rfl := ex_nums hN; have B1 := BX.out.trans (hb.mono BX.out.size); have C4 := CO.out 4 (by decide) v _ w1 B1 hI; rw [o4.out] at C4; have I1 := hid (show ∀ W, Below w1.heap.size w1 W → IntR W v [1, 2, 1] from fun W k => hI.kept k); obtain ⟨ra, rc, rfl, -, hr⟩ := hI.open; obtain ⟨b, off, rfl, -, x0⟩ := hr 0 (by decide); obtain ⟨b', off', e1, -, x1⟩ := hr 1 (by decide); obtain ⟨b2, off2, e2, -, x2⟩ := hr 2 (by decide); cases e1; cases e2; simp at x0 x1 x2; replace C4 := hid C4; replace B1 := hid B1; clear hb hN hr C)
    | (go_at_call 12; refine Calls.mono C4.out ?_; rintro _ w2 ⟨rfl, hb2⟩; have B2 := B1.out.trans (hb2.mono B1.out.size); have C0 := CO.out 0 (by decide) _ _ w2 B2 (I1.out _ hb2); rw [o0.out] at C0; replace C0 := hid C0; replace B2 := hid B2; clear hb2 C4)
    | (go_at_call 12; refine Calls.mono C0.out ?_; rintro _ w3 ⟨rfl, hb3⟩; have B3 := hid (B2.out.trans (hb3.mono B2.out.size)); clear hb3 C0))
  all_goals
    go_ret
    exact ⟨rfl, B3.out⟩
end Go.Proofs.YtdpbapoahfggeaaDoor
/- The laws' alive; Writes. -/
namespace Go.Proofs.YtdpbapoahfggeaaDoor
open Go.ChangeShapes Go.WideShapes Go.ChangeAt Go.RowKit
set_option linter.unusedVariables false
set_option linter.unusedSimpArgs false

/-- Which slot an instruction gives a value. -/
def wrB (op dst : Int) : Int := if hasD op then dst else -1

set_option maxHeartbeats 2000000 in
theorem writes_any (op dst src rc n tt : Int) (a7 : Option Addr) (n7 p7 : Nat) (a8 : Option Addr) (n8 p8 : Nat) (w : World) :
    Calls Tryd.prog 62 #[.agg #[.int .i64 op, .int .i64 dst, .int .i64 src, .int .i64 rc, .int .i64 n, .int .i64 tt, .slice a7 n7 p7, .slice a8 n8 p8]] w fun e w' => e = .returned (.int .i64 (wrB op dst)) ∧ Below w.heap.size w w' := by
  have B := hid ((Below.refl w.heap.size w).alloc (Nat.le_refl _) (.cells #[.int .i64 op, .int .i64 dst, .int .i64 src, .int .i64 rc, .int .i64 n, .int .i64 tt, .slice a7 n7 p7, .slice a8 n8 p8] 58))
  go_enter Tryd.func62, Tryd.ntmps62
  go_wp2
  all_goals
    go_ret
    refine ⟨retI ?_, by first | exact B.out | exact (Below.refl _ _).alloc (Nat.le_refl _) _⟩
    first | (simp [wrB, hasD, *]; done) | (simp only [beq_iff_eq, beq_eq_false_iff_ne, ne_eq] at *; subst_vars; rfl)

theorem RowOf.one {α : Type} {cells : α → List Value} {s : Nat} {ok : World → α → Prop} {w : World} {b : Nat} {x : α} (h : BoxAt w b (cells x)) (ho : ok w x) : RowOf cells s ok w (.slice (some ⟨b, 0, none⟩) 1 1) [x] :=
  ⟨some ⟨b, 0, none⟩, 1, rfl, by simp, by decide, (fun p hp _ => by cases hp; rfl), (fun e => by cases e), fun i y hy => by
    cases i with
    | zero =>
      simp at hy; subst hy
      exact ⟨b, 0, rfl, h.1, fun j u hu => by have := h.2 j u hu; simpa using this, ho⟩
    | succ i => simp at hy⟩

theorem RowOf.two {α : Type} {cells : α → List Value} {s : Nat} {ok : World → α → Prop} {w : World} {b : Nat} {x y : α} (hs : (cells x).length = s) (h : BoxAt w b (cells x ++ cells y)) (hx : ok w x) (hy : ok w y) : RowOf cells s ok w (.slice (some ⟨b, 0, none⟩) 2 2) [x, y] :=
  ⟨some ⟨b, 0, none⟩, 2, rfl, by simp, by decide, (fun p hp _ => by cases hp; rfl), (fun e => by cases e), fun i z hz => by
    match i with
    | 0 =>
      simp at hz; subst hz
      refine ⟨b, 0, rfl, h.1, fun j u hu => ?_, hx⟩
      have := h.2 j u (by rw [List.getElem?_append_left (List.getElem?_eq_some_iff.1 hu).1]; exact hu)
      simpa using this
    | 1 =>
      simp at hz; subst hz
      refine ⟨b, 0, rfl, h.1, fun j u hu => ?_, hy⟩
      have := h.2 (s + j) u (by rw [List.getElem?_append_right (by omega), hs]; simpa using hu)
      simpa using this
    | k + 2 => simp at hz⟩

def i17 : Ins := ⟨17, 0, 0, 0, 0, 0, [], .slice none 0 0, [], .slice none 0 0⟩
def i2 : Ins := ⟨2, 0, 0, 0, 0, 0, [], .slice none 0 0, [], .slice none 0 0⟩
def l1 : Loc := ⟨1, 0, false⟩
def nl : Value := .slice none 0 0
def rowV (b n : Nat) : Value := .slice (some ⟨b, 0, none⟩) n n
def cA (p q : Nat) : Cd := ⟨[], nl, [], nl, [⟨[], nl, [i17], rowV p 1, 0⟩], rowV q 1, [], nl, [], nl⟩
def cB (g s p q : Nat) : Cd := ⟨[], nl, [l1], rowV g 1, [⟨[l1], rowV s 1, [i2, i17], rowV p 2, 0⟩], rowV q 1, [], nl, [], nl⟩

theorem i64z : I64 0 := ⟨by decide, by decide⟩
theorem n2 : i2.nums := ⟨(⟨by decide, by decide⟩ : I64 2), i64z, i64z, i64z, i64z, i64z⟩
end Go.Proofs.YtdpbapoahfggeaaDoor
/- append of rows to rows. -/
namespace Go.Proofs.YtdpbapoahfggeaaDoor
open Go.ChangeShapes Go.WideShapes Go.ChangeAt Go.RowKit Go.Deep
set_option linter.unusedVariables false
set_option linter.unusedSimpArgs false

theorem info27 : (Tryd.prog.info? 27).map (fun i => (i.zero, i.size, i.bytes)) = some (some (.slice none 0 0), 1, 24) := by kernel_rfl
theorem run_append_nil (w : World) (t ty : TypeId) (base : Nat) (e : TypeId) (i : TypeInfo) (size : Nat) (ht : Tryd.prog.underlying t = some (.slice e)) (hi : Tryd.prog.info? e = some i)
    (v : Value) (n c : Nat) (xs : List Value) (hown : w.ownsRow base e size v n xs) : (Builtin.append_ #[t, t] ty #[v, .slice none 0 c]).run Tryd.prog w = .ok v w := by
  rcases hown.2 with ⟨rfl, rfl⟩ | ⟨g, cap, cur, rfl, hbg, hg, hnc, hcm, hcs, htake⟩
  · simp [Builtin.append_, run_underlying ht, sizeOf, typeInfo, hi, Builtin.lenOf, Builtin.firstCells]
  · simp [Builtin.append_, run_underlying ht, sizeOf, typeInfo, hi, Builtin.lenOf, Builtin.firstCells, storeCells, hnc]
theorem run_appendG (w : World) (t ty : TypeId) (base : Nat) (e : TypeId) (z : Value) (bytes : Nat) (ht : Tryd.prog.underlying t = some (.slice e)) (hinf : (Tryd.prog.info? e).map (fun i => (i.zero, i.size, i.bytes)) = some (some z, 1, bytes)) (hzs : z.cells.size = 1) (hby : bytes ≤ 1000)
    (v : Value) (n : Nat) (xs : List Value) (hown : w.ownsRow base e 1 v n xs) (u : Value) (us : List Value) (hu : ValsR w u us) (h1 : ∀ x ∈ us, x.oneCell' = true) (h63 : n + us.length ≤ 2000000) (hbase : base ≤ w.heap.size) :
    ∃ v' w', (Builtin.append_ #[t, t] ty #[v, u]).run Tryd.prog w = .ok v' w' ∧ w'.ownsRow base e 1 v' (n + us.length) (xs ++ us) ∧ w.grownBy w' v.ownBlock ∧ (v'.ownBlock = v.ownBlock ∨ v'.ownBlock = some w.heap.size) := by
  obtain ⟨a, c, rfl, -, hv⟩ := hu
  obtain ⟨i, hi, z0, z1, z2⟩ := info_parts hinf
  have hm : (n + us.length) * bytes ≤ 2000000 * 1000 := Nat.mul_le_mul h63 hby
  by_cases hl : us = []
  · subst hl
    cases a with
    | none => exact ⟨v, w, run_append_nil w t ty base e i 1 ht hi v n c xs hown, by simpa using hown, ⟨rfl, rfl, rfl, Nat.le_refl _, fun _ _ _ => rfl⟩, .inl rfl⟩
    | some p =>
      obtain ⟨v', w', hr, h2, h3, _, h5⟩ := run_append_own_at (P := Tryd.prog) w base t ty e i z 1 bytes ht hi z0 z1 z2 hzs (by decide) v n xs hown p 0 c [] rfl (fun j u hj => by simp at hj) (fun u hu => by cases hu) (by simp only [maxLen]; simp at h63; omega) (by simp at hm ⊢; omega) hbase
      exact ⟨v', w', hr, h2, h3, h5⟩
  · have h0 : us[0]? = some (us[0]'(List.length_pos_iff.2 hl)) := by simp
    obtain ⟨b, off, rfl, _, _⟩ := hv 0 _ h0
    obtain ⟨v', w', hr, h2, h3, _, h5⟩ := run_append_own_at (P := Tryd.prog) w base t ty e i z 1 bytes ht hi z0 z1 z2 hzs (by decide) v n xs hown ⟨b, off, none⟩ us.length c us (by simp) (fun j u hj => by
      obtain ⟨b', off', e, _, h⟩ := hv j u hj
      cases e
      rw [add_plain]
      exact h) h1 (by simp only [maxLen]; omega) (by omega) hbase
    exact ⟨v', w', hr, h2, h3, h5⟩
theorem run_appendV (w : World) (ty : TypeId) (base : Nat) (v : Value) (n : Nat) (xs : List Value) (hown : w.ownsRow base 27 1 v n xs) (u : Value) (us : List Value) (hu : ValsR w u us) (h1 : ∀ x ∈ us, x.oneCell' = true) (h63 : n + us.length ≤ 2000000) (hbase : base ≤ w.heap.size) :
    ∃ v' w', (Builtin.append_ #[22, 22] ty #[v, u]).run Tryd.prog w = .ok v' w' ∧ w'.ownsRow base 27 1 v' (n + us.length) (xs ++ us) ∧ w.grownBy w' v.ownBlock ∧ (v'.ownBlock = v.ownBlock ∨ v'.ownBlock = some w.heap.size) :=
  run_appendG w 22 ty base 27 (.slice none 0 0) 24 Tryd.underlying22 info27 rfl (by decide) v n xs hown u us hu h1 h63 hbase
theorem wp_appendV {w : World} {o : Oper} {a : Act} {K : Act → World → Prop} {Q : Exit → Act → World → Prop} (s x : Operand)
    (ho : o.op = .call { callee := .builtin .append, args := #[s, x], argTypes := #[22, 22] })
    (base : Nat) (v : Value) (hs : a.eval s = v) (n : Nat) (xs : List Value) (hown : w.ownsRow base 27 1 v n xs) (u : Value) (hx : a.eval x = u) (us : List Value) (hu : ValsR w u us) (h1 : ∀ x ∈ us, x.oneCell' = true) (h63 : n + us.length ≤ 2000000) (hbase : base ≤ w.heap.size)
    (h : ∀ v' w', w'.ownsRow base 27 1 v' (n + us.length) (xs ++ us) → w.grownBy w' v.ownBlock → (v'.ownBlock = v.ownBlock ∨ v'.ownBlock = some w.heap.size) → K (a.put o.dst v') w') : o.wp Tryd.prog a w K Q := by
  obtain ⟨v', w', hr, h2, h3, h4⟩ := run_appendV w o.type base v n xs hown u us hu h1 h63 hbase
  unfold Oper.wp execOp
  simp only [ho, resolve, invoke, builtin, Sem.run_bind, Sem.run_pure, Result.andThen_ok, List.map_toArray, List.map_cons, List.map_nil, hs, hx, hr]
  exact h v' w' h2 h3 h4
theorem step_appendV {w : World} {ops : Array Oper} {o : Oper} {a : Act} {K : Act → World → Prop} {Q : Exit → Act → World → Prop} {E : Prop} (hgd : o.guard = none) (s x : Operand)
    (ho : o.op = .call { callee := .builtin .append, args := #[s, x], argTypes := #[22, 22] })
    (base : Nat) (v : Value) (hs : a.eval s = v) (n : Nat) (xs : List Value) (hown : w.ownsRow base 27 1 v n xs) (u : Value) (hx : a.eval x = u) (us : List Value) (hu : ValsR w u us) (h1 : ∀ x ∈ us, x.oneCell' = true) (h63 : n + us.length ≤ 2000000) (hbase : base ≤ w.heap.size)
    (h : ∀ v' w', w'.ownsRow base 27 1 v' (n + us.length) (xs ++ us) → w.grownBy w' v.ownBlock → (v'.ownBlock = v.ownBlock ∨ v'.ownBlock = some w.heap.size) → K (a.put o.dst v') w') :
    if Region.wanted o (yielded ops a.tmps) = true then Oper.wp Tryd.prog o a w K Q else E := by
  have hw : Region.wanted o (yielded ops a.tmps) = true := by simp [Region.wanted, hgd]
  rw [if_pos hw]
  exact wp_appendV s x ho base v hs n xs hown u hx us hu h1 h63 hbase h
theorem own_vals {w : World} {base : Nat} {e : TypeId} {v : Value} {n : Nat} {us : List Value} (h : w.ownsRow base e 1 v n us) (hn : n = us.length) (hl : us.length ≤ 9223372036854775807) : ValsR w v us := by
  obtain ⟨p, c, e⟩ := own_slice h
  subst hn
  refine ⟨p, c, e, hl, fun i u hu => ?_⟩
  rcases h.2 with ⟨e1, e2⟩ | ⟨g, cap, cur, e1, hbg, hg, hnc, hcm, hcs, htake⟩
  · rw [e] at e1
    have : us.length = 0 := by simpa using e2
    have := (List.getElem?_eq_some_iff.1 hu).1
    omega
  · rw [e] at e1
    cases e1
    have := h.cells (g := g) (by rw [e]; rfl) i _ hu
    exact ⟨g, 0, rfl, (Array.getElem?_eq_some_iff.1 hg).1, by rwa [add_plain] at this⟩
/-- A row's values are slices. -/
theorem RowsR.vals {w : World} {v : Value} {L : List (List Nat)} (h : RowsR w v L) : ∃ us : List Value, ValsR w v us ∧ us.length = L.length ∧ (∀ (i : Nat) (u : Value) (l : List Nat), us[i]? = some u → L[i]? = some l → NumR w u l) ∧ ∀ x ∈ us, x.oneCell' = true := by
  obtain ⟨us, h1, h2, h3⟩ := h
  refine ⟨us, h1, h2, h3, fun x hx => ?_⟩
  obtain ⟨i, hi⟩ := List.mem_iff_getElem?.1 hx
  have hlt := (List.getElem?_eq_some_iff.1 hi).1
  obtain ⟨a, c, e⟩ := (h3 i x (L[i]'(by omega)) hi (by simp [show i < L.length by omega])).form
  rw [e]
  rfl
theorem nums_app {w : World} {us us' : List Value} {L L' : List (List Nat)} (hl : us.length = L.length) (h : ∀ (i : Nat) (u : Value) (l : List Nat), us[i]? = some u → L[i]? = some l → NumR w u l) (h' : ∀ (i : Nat) (u : Value) (l : List Nat), us'[i]? = some u → L'[i]? = some l → NumR w u l) :
    ∀ (i : Nat) (u : Value) (l : List Nat), (us ++ us')[i]? = some u → (L ++ L')[i]? = some l → NumR w u l := fun i u l hu hl' => by
  rw [List.getElem?_append] at hu hl'
  by_cases e : i < us.length
  · rw [if_pos e] at hu
    rw [if_pos (by omega)] at hl'
    exact h i u l hu hl'
  · rw [if_neg e] at hu
    rw [if_neg (by omega), ← hl] at hl'
    exact h' _ u l hu hl'
theorem nums_one {w : World} {u : Value} {l : List Nat} (h : NumR w u l) : ∀ (i : Nat) (v : Value) (k : List Nat), [u][i]? = some v → [l][i]? = some k → NumR w v k := fun i v k hv hk => by
  cases i with
  | zero => simp at hv hk; subst hv hk; exact h
  | succ i => simp at hv
end Go.Proofs.YtdpbapoahfggeaaDoor
