/- The contract of Split. -/
import Derived.Test.YtdpbapoahfggeaaDoorJb
namespace Go.Proofs.YtdpbapoahfggeaaDoor
open Go.ChangeShapes Go.WideShapes Go.ChangeAt Go.RowKit
set_option linter.unusedVariables false
set_option linter.unusedSimpArgs false

def cellsI (l : List Nat) : List Value := l.map iV
theorem cellsI_len (l : List Nat) : (cellsI l).length = l.length := by simp [cellsI]
theorem cellsI_at {l : List Nat} {j : Nat} (h : j < l.length) : (cellsI l)[j]? = some (.int .i64 ((l.getD j 0 : Nat) : Int)) := by
  unfold cellsI
  simp [List.getD, h, iV]
theorem cellsI_set (l : List Nat) (j v : Nat) : (cellsI l).set j (.int .i64 (v : Int)) = cellsI (l.set j v) := by
  unfold cellsI
  rw [List.map_set]
  rfl
theorem VarAt.intR {w : World} {b : Nat} {l : List Nat} {t : TypeId} (h : VarAt w b (cellsI l) t) (c : Nat) (hl : l.length ≤ 9223372036854775807) : IntR w (.slice (some ⟨b, 0, none⟩) l.length c) l :=
  ⟨_, c, by rw [List.length_map], by simpa using hl, fun i u hu => ⟨b, 0, rfl, h.lt, by rw [Nat.zero_add]; exact h.cell i hu⟩⟩
theorem made_zeroI (n : Nat) : madeCells #[.int .i64 0] (n * 1) = (cellsI (List.replicate n 0)).toArray := by
  apply Array.ext
  · simp [madeCells, cellsI]
  · intro i h1 h2
    simp [madeCells, cellsI, iV, Nat.mod_one]
theorem info3i : (Tryd.prog.info? 3).map (fun i => (i.zero, i.size, i.bytes)) = some (some (.int .i64 0), 1, 8) := by kernel_rfl
theorem run_makeI (n : Nat) (hn : n ≤ 1000) (w : World) : (Instr.makeSlice 25 (.int .i64 (n : Int)) (.int .i64 (n : Int))).run Tryd.prog w = .ok (.slice (some ⟨w.heap.size, 0, none⟩) n n) (w.alloc (.cells (cellsI (List.replicate n 0)).toArray 3)) := by
  obtain ⟨i, hi, z0, z1, z2⟩ := info_parts info3i
  have := run_make (P := Tryd.prog) w 25 3 i _ Tryd.underlying25 hi z0 .i64 .i64 (n : Int) (n : Int) (by omega) (by omega) (by rw [z2]; omega) (by omega)
  rw [z1] at this
  simp only [Int.toNat_natCast] at this
  rw [this]
  simp only [Value.cells]
  rw [made_zeroI]

/-- While classes are given. -/
structure SpW (w : World) (m : Nat) (g l : List Nat) (X : World) : Prop where
  bg : VarAt X m (cellsN g) 48
  bl : VarAt X (m + 1) (cellsI l) 3
  bel : Below w.heap.size w X
  lo : w.heap.size ≤ m
theorem SpW.kept {w : World} {m : Nat} {g l : List Nat} {X X' : World} (h : SpW w m g l X) (k : Below X.heap.size X X') : SpW w m g l X' := ⟨h.bg.kept k, h.bl.kept k, h.bel.trans (k.mono h.bel.size), h.lo⟩
theorem SpW.put {w : World} {m : Nat} {g l : List Nat} {X : World} (h : SpW w m g l X) (k v : Nat) : SpW w m g (l.set k v) (X.setCell ⟨m + 1, k, none⟩ (.int .i64 (v : Int))) := by
  have t : Touch (fun i => i = m + 1) X (X.setCell ⟨m + 1, k, none⟩ (.int .i64 (v : Int))) := Touch.setCell _ _ _ rfl
  refine ⟨h.bg.touch t (by omega), ?_, below_touch h.bel t (fun i hi => by have := h.lo; omega), h.lo⟩
  rw [← cellsI_set]
  exact h.bl.set k _

set_option maxRecDepth 100000 in
set_option maxHeartbeats 1000000 in
theorem split_any (n : Nat) (hn : n ≤ 64) (hn1 : 1 ≤ n) (v0 v1 v2 : Value) (S : List (List Nat)) (l1 : List Nat) (F : List (List Nat)) (w : World) (h0 : RowsR w v0 S) (h1 : NumR w v1 l1) (h2 : RowsR w v2 F)
    (sS : Sm64 S) (s1 : Sm64 [l1]) (sF : Sm64 F) (hTab : Tab w) :
    Calls Tryd.prog 8 #[.int .i64 (n : Int), .agg #[v0, v1, v2]] w fun e w' => ∃ v l, e = .returned v ∧ IntR w' v l ∧ NumS n (S.flatten ++ l1 ++ F.flatten) l ∧ Below w.heap.size w w' := by
  have BZ := (Below.refl w.heap.size w).alloc (Nat.le_refl _) (.cells #[v0, v1, v2] 29)
  have C := hid (joined_any n hn v0 v1 v2 S l1 F (w.alloc (.cells #[v0, v1, v2] 29)) (h0.kept BZ) (h1.kept BZ) (h2.kept BZ) sS s1 sF (hTab.kept BZ))
  have mk := hid (fun W => run_makeI n (by omega) W)
  replace hTab := hid hTab
  obtain ⟨a0, c0, rfl, -⟩ := h0.open
  obtain ⟨a1, c1, rfl, -⟩ := h1.open
  obtain ⟨a2, c2, rfl, -⟩ := h2.open
  clear h0 h1 h2 sS s1 sF
  have hsI : (Tryd.prog.info? 48).map (·.size) = some 64 := by kernel_rfl
  have hnI : ¬ (n : Int) < 1 := by omega
  have FL : ∀ g : List Nat, g.length = 64 → (cellsN (onesK 0)).length = (cellsN g).length ∧ (Tryd.prog.info? 48).map (·.size) = some (cellsN g).length := fun g hg => ⟨by rw [cellsN_len, cellsN_len, onesK_len, hg], by rw [cellsN_len, hg]; exact hsI⟩
  replace BZ := hid BZ
  go_enter Tryd.func8, Tryd.ntmps8
  go_wp2_with (first
    | (go_at_call 17; refine Calls.mono C.out ?_; rintro _ w1 ⟨g, rfl, hg, hb⟩; have GG := hid hg; have B1 := hid (BZ.out.trans (hb.mono BZ.out.size)); clear hg hb)
    | (refine wl_store_all 48 _ _ rfl rfl w1.heap.size rfl (cellsN g) rfl (FL _ GG.out.1).2 (cellsN_one g) (cellsN (onesK 0)) 48 (VarAt.new w1 (cellsN (onesK 0)) 48) (FL _ GG.out.1).1 ?_; intro w2 hv ht; have s2 : w2.heap.size = w1.heap.size + 1 := ht.size.trans (World.size_alloc _ _); have B2 := hid (ht.below (B1.out.alloc B1.out.size _) B1.out.size); have mw := mk.out w2; replace hv := hid hv; have lo := B1.out.size; clear ht B1))
  have VI := VarAt.new w2 (cellsI (List.replicate n 0)) 3
  have BN := (Below.refl w2.heap.size w2).alloc (Nat.le_refl _) (.cells (cellsI (List.replicate n 0)).toArray 3)
  have J0 : SpW w w1.heap.size g (List.replicate n 0) (w2.alloc (.cells (cellsI (List.replicate n 0)).toArray 3)) := ⟨hv.out.kept BN, by rw [s2] at VI; exact VI, B2.out.trans (BN.mono B2.out.size), lo⟩
  try rw [s2]
  generalize w2.alloc (.cells (cellsI (List.replicate n 0)).toArray 3) = Y at *
  generalize w1.heap.size = m at *
  generalize hL : S.flatten ++ l1 ++ F.flatten = L at *
  clear VI BN hv B2 mw mk C BZ FL hsI
  replace J0 := hid J0
  go_loopw [7, 18] (fun t7 t18 wr => ∃ (k last : Nat) (l : List Nat), t7 = .int .i64 (last : Int) ∧ t18 = .int .i64 (k : Int) ∧ k ≤ n ∧ last ≤ k ∧ Hid (SpW w m g l wr) ∧ Hid (NumK n L l k last)) (fun _ t _ => n - (intOf t).toNat)
  case atStart => exact ⟨0, 0, _, rfl, rfl, by omega, by omega, J0, hid (numK_start n L)⟩
  case round =>
    clear J0
    obtain ⟨k, last, l, rfl, rfl, hk, hlk, J, K⟩ := hrel
    by_cases hkn : k < n
    · have xg := J.out.bg.cell k (cellsN_at (by have := GG.out.1; omega))
      have hx := GG.out.lt k
      have nx := hid (numK_next K.out hkn hn GG.out)
      have hll := K.out.len
      have IR := J.out.bl.intR n (by omega)
      rw [hll] at IR
      rw [p64] at hx
      have C := hid (of_any (g.getD k 0) hx _ l wr IR (hTab.out.kept J.out.bel))
      generalize g.getD k 0 = x at *
      have hkI : (k : Int) < (n : Int) := by omega
      have hk64 : (k : Int) < 64 := by omega
      have YC := hid (fun X (h : SpW w m g l X) => (⟨h.bl.cell k (cellsI_at (by omega)), h.bl.frozen k⟩ : _ ∧ _))
      generalize l.getD k 0 = lk at *
      by_cases hc : ofL x l = 0
      · have nk := hid (nx.out.2 hc)
        rw [hc] at C
        clear nx GG hTab hx IR K
        go_wp2_with (go_at_call 12; refine Calls.mono C.out ?_; rintro _ w' ⟨rfl, hb⟩; have J2 := hid (J.out.kept hb); have yc := (YC.out _ J2.out).1; have yf := (YC.out _ J2.out).2; clear hb C)
        go_roundw
        case rel =>
          refine ⟨k + 1, last + 1, l.set k (last + 1), by go_num, by go_num, by omega, by omega, hid ?_, nk⟩
          have := (J2.out.put k 0).put k (last + 1)
          rw [List.set_set] at this
          simpa using this
        case measure => simp [intOf]; omega
      · have nk := hid (nx.out.1 hc)
        generalize ofL x l = c at *
        have hcI : ¬ ((c : Int) = 0) := by omega
        clear nx GG hTab hx IR K
        go_wp2_with (go_at_call 12; refine Calls.mono C.out ?_; rintro _ w' ⟨rfl, hb⟩; have J2 := hid (J.out.kept hb); have yc := (YC.out _ J2.out).1; have yf := (YC.out _ J2.out).2; clear hb C)
        go_roundw
        case rel => exact ⟨k + 1, last, l.set k c, by go_num, by go_num, by omega, by omega, hid (J2.out.put k c), nk⟩
        case measure => simp [intOf]; omega
    · have e : k = n := by omega
      subst e
      have nk := numK_end K.out
      have JJ := J.out
      clear GG hTab J K
      go_wp2_with fail
      go_ret
      have IR := JJ.bl.intR k (by have := nk.len; omega)
      rw [nk.len] at IR
      exact ⟨_, l, rfl, IR, hL ▸ nk, JJ.bel⟩
/-- Of no site there is none. -/
theorem split_none (n : Int) (hn : n < 1) (a0 a1 a2 : Option Addr) (n0 n1 n2 c0 c1 c2 : Nat) (w : World) :
    Calls Tryd.prog 8 #[.int .i64 n, .agg #[.slice a0 n0 c0, .slice a1 n1 c1, .slice a2 n2 c2]] w fun e w' => e = .returned (.slice none 0 0) ∧ Below w.heap.size w w' := by
  have BZ := hid ((Below.refl w.heap.size w).alloc (Nat.le_refl _) (.cells #[.slice a0 n0 c0, .slice a1 n1 c1, .slice a2 n2 c2] 29))
  go_enter Tryd.func8, Tryd.ntmps8
  go_wp2_with fail
  go_ret
  exact ⟨rfl, BZ.out⟩
end Go.Proofs.YtdpbapoahfggeaaDoor
