/- The walk of ClassFine. -/
import Derived.Test.YtdpbapoahfggeaaDoorAe
import Derived.Test.YtdpbapoahfggeaaDoorSe
import Derived.Test.YtdpbapoahfggeaaDoorRs
namespace Go.Proofs.YtdpbapoahfggeaaDoor
open Go.ChangeShapes Go.WideShapes Go.ChangeAt Go.RowKit Go.Deep
set_option linter.unusedVariables false
set_option linter.unusedSimpArgs false

def cellsB (s : List Bool) : List Value := s.map Value.bool
theorem cellsB_len (s : List Bool) : (cellsB s).length = s.length := by simp [cellsB]
theorem cellsB_at {s : List Bool} {j : Nat} (h : j < s.length) : (cellsB s)[j]? = some (.bool (s.getD j false)) := by
  unfold cellsB
  simp [List.getD, h]
theorem cellsB_set (s : List Bool) (j : Nat) (v : Bool) : (cellsB s).set j (.bool v) = cellsB (s.set j v) := by
  unfold cellsB
  rw [List.map_set]
theorem made_false (n : Nat) : madeCells #[.bool false] (n * 1) = (cellsB (List.replicate n false)).toArray := by
  apply Array.ext
  · simp [madeCells, cellsB]
  · intro i h1 h2
    simp [madeCells, cellsB, Nat.mod_one]
theorem info4b : (Tryd.prog.info? 4).map (fun i => (i.zero, i.size, i.bytes)) = some (some (.bool false), 1, 1) := by kernel_rfl
theorem run_makeB (n : Nat) (hn : n ≤ 1000) (w : World) : (Instr.makeSlice 44 (.int .i64 (n : Int)) (.int .i64 (n : Int))).run Tryd.prog w = .ok (.slice (some ⟨w.heap.size, 0, none⟩) n n) (w.alloc (.cells (cellsB (List.replicate n false)).toArray 4)) := by
  obtain ⟨i, hi, z0, z1, z2⟩ := info_parts info4b
  have := run_make (P := Tryd.prog) w 44 4 i _ Tryd.underlying44 hi z0 .i64 .i64 (n : Int) (n : Int) (by omega) (by omega) (by rw [z2]; omega) (by omega)
  rw [z1] at this
  simp only [Int.toNat_natCast] at this
  rw [this]
  simp only [Value.cells]
  rw [made_false]
/-- Those of the first k sites that are the first of their class. -/
def firstS (l : List Nat) (n k : Nat) : List Bool := (List.range n).map (fun j => decide (j < k) && firstB l j)
theorem firstS_len (l : List Nat) (n k : Nat) : (firstS l n k).length = n := by simp [firstS]
theorem firstS_zero (l : List Nat) (n : Nat) : firstS l n 0 = List.replicate n false := by
  apply List.ext_getElem
  · simp [firstS]
  · intro i h1 h2
    simp [firstS]
theorem firstS_set {l : List Nat} {n k : Nat} (h : k < n) : (firstS l n k).set k (firstB l k) = firstS l n (k + 1) := by
  apply List.ext_getElem
  · simp [firstS]
  · intro i h1 h2
    simp only [firstS, List.getElem_set, List.getElem_map, List.getElem_range]
    by_cases e : k = i
    · subst e; simp
    · rw [if_neg e]
      by_cases q : i < k
      · rw [decide_eq_true q, decide_eq_true (show i < k + 1 by omega)]
      · rw [decide_eq_false q, decide_eq_false (show ¬ i < k + 1 by omega)]
theorem firstS_at {l : List Nat} {n k : Nat} (h : k < n) : (firstS l n n).getD k false = firstB l k := by
  unfold firstS
  simp [List.getD, h]
def firstN (l : List Nat) (k i : Nat) : Bool := decide (∀ j, j < i → l.getD j 0 ≠ l.getD k 0)
theorem firstN_zero (l : List Nat) (k : Nat) : firstN l k 0 = true := decide_eq_true (fun j hj => by omega)
theorem firstN_succ (l : List Nat) (k i : Nat) : firstN l k (i + 1) = (firstN l k i && decide (l.getD i 0 ≠ l.getD k 0)) := by
  unfold firstN
  rw [Bool.eq_iff_iff, Bool.and_eq_true, decide_eq_true_eq, decide_eq_true_eq, decide_eq_true_eq]
  constructor
  · exact fun h => ⟨fun j hj => h j (by omega), h i (by omega)⟩
  · rintro ⟨h1, h2⟩ j hj
    by_cases e : j = i
    · rw [e]; exact h2
    · exact h1 j (by omega)

/-- While sites are joined. -/
structure FiW (w4 : World) (M : Nat) (x y z : Value) (s : List Bool) (X : World) : Prop where
  bx : VarAt X M [x, y, z] 29
  bj : VarAt X w4.heap.size (cellsB s) 4
  bel : Below w4.heap.size w4 X
  lo : M < w4.heap.size
theorem FiW.kept {w4 : World} {M : Nat} {x y z : Value} {s : List Bool} {X X' : World} (h : FiW w4 M x y z s X) (k : Below X.heap.size X X') : FiW w4 M x y z s X' := ⟨h.bx.kept k, h.bj.kept k, h.bel.trans (k.mono h.bel.size), h.lo⟩
theorem FiW.put {w4 : World} {M : Nat} {x y z : Value} {s : List Bool} {X : World} (h : FiW w4 M x y z s X) (k : Nat) (v : Bool) : FiW w4 M x y z (s.set k v) (X.setCell ⟨w4.heap.size, k, none⟩ (.bool v)) := by
  have t : Touch (fun i => i = w4.heap.size) X (X.setCell ⟨w4.heap.size, k, none⟩ (.bool v)) := Touch.setCell _ _ _ rfl
  have lo := h.lo
  refine ⟨h.bx.touch t (by omega), ?_, below_touch h.bel t (fun i hi => by omega), h.lo⟩
  rw [← cellsB_set]
  exact h.bj.set k _
theorem FiW.dN {w4 : World} {M : Nat} {x y z : Value} {s : List Bool} {X : World} (h : FiW w4 M x y z s X) (n : Nat) : FiW w4 M x y z s (X.drewN n) := h.kept (below_dN (Below.refl _ _) n)

set_option maxRecDepth 100000 in
set_option maxHeartbeats 8000000 in
theorem fine_walk (n : Nat) (hn : n ≤ 12) (hn1 : 1 ≤ n) (v1 : Value) (L : List (List Nat)) (w : World) (hr : RowsR w v1 L) (hsm : Sm64 L) (hL6 : L.length ≤ 6) (hTab : Tab w) :
    Calls Tryd.prog 5 #[.int .i64 (n : Int), v1] w fun e w' => e = .returned (.bool true) ∧ Below w.heap.size w w' := by
  have CA := hid (alivec_any w hTab)
  have CS := hid (fun W (k : Below w.heap.size w W) (hL : L.length ≤ 500) => sets_any L v1 W (hr.kept k) hL)
  have hTabX := hid (fun W (k : Below w.heap.size w W) => (hTab.kept k : Tab W))
  have HX := hid hr
  obtain ⟨va, vc, rfl, hLn, hrow0⟩ := hr.open
  have RL : Hid (∀ i, i < L.length → (L.getD i []).length ≤ 9223372036854775807) := hid (fun i hi => by
    obtain ⟨b, off, u, h1, h2, h3, h4⟩ := hrow0 i hi
    obtain ⟨ua, uc, e, h, _⟩ := NumR.open h4
    exact h)
  have HR := hid (fun i (hi : i < L.length) X (h : Below w.heap.size w X) => (show ∃ b off u uc, va = some ⟨b, off, none⟩ ∧ X.cell? ⟨b, off + i, none⟩ = some (.slice u (L.getD i []).length uc) ∧ ∀ k, k < (L.getD i []).length → ∃ b' off', u = some ⟨b', off', none⟩ ∧ X.cell? ⟨b', off' + k, none⟩ = some (.int .u64 (((L.getD i []).getD k 0 : Nat) : Int)) from by
    obtain ⟨b, off, u, h1, h2, h3, h4⟩ := hrow0 i hi
    obtain ⟨ua, uc, e, _, h5⟩ := NumR.open h4
    subst e
    refine ⟨b, off, ua, uc, h1, by rw [h.cell h2]; exact h3, fun k hk => ?_⟩
    obtain ⟨b', off', k1, k2, k3⟩ := h5 k hk
    exact ⟨b', off', k1, by rw [h.cell k2]; exact k3⟩))
  have SM := hid hsm
  clear hr hrow0 hTab hsm
  have sS := setS_small SM.out L.length (Nat.le_refl _)
  have sF := setF_small SM.out L.length (Nat.le_refl _)
  have sG := setG_small SM.out L.length (Nat.le_refl _)
  have CP := hid (fun W (k : Below w.heap.size w W) x0 x1 x2 (q0 : RowsR W x0 (setS L L.length)) (q1 : NumR W x1 (setG0 L L.length)) (q2 : RowsR W x2 (setF L L.length)) => split_any n (by omega) hn1 x0 x1 x2 _ _ _ W q0 q1 q2 sS sG sF (hTabX.out W k))
  have CM := hid (fun (a b : Nat) (ha : a < 64) (hb : b < 64) W x0 x1 x2 (q0 : RowsR W x0 (setS L L.length)) (q1 : NumR W x1 (setG0 L L.length)) (q2 : RowsR W x2 (setF L L.length)) => meetS_any n a b ha hb x0 x1 x2 _ _ _ W q0 q1 q2 sS sG sF (by have := setS_len L L.length; omega) (by have := setF_len L L.length; omega))
  have mk := hid (fun W => run_makeB n (by omega) W)
  have hn0 : ¬ (n : Int) < 1 := by omega
  have hn12 : ¬ (12 : Int) < (n : Int) := by omega
  have hL6I : ¬ (6 : Int) < (L.length : Int) := by omega
  clear sS sF sG
  go_enter Tryd.func5, Tryd.ntmps5
  go_wp2_with (go_at_call 7; refine Calls.mono CA.out ?_; rintro _ w1 ⟨rfl, hb1⟩; have B1 := hid hb1; clear hb1 CA)
  go_loopw [35] (fun ti wr => ∃ i : Nat, ti = .int .i64 (i : Int) ∧ i ≤ L.length ∧ wr = w1) (fun t _ => L.length - (intOf t).toNat)
  case atStart => exact ⟨0, rfl, by omega, rfl⟩
  case round =>
    obtain ⟨i, rfl, hi, hwr⟩ := hrel
    by_cases hil : i < L.length
    · subst hwr
      clear CS CP CM HX hTabX mk
      obtain ⟨b, off, q, qc, rfl, hc, hrow⟩ := HR.out i hil wr B1.out
      have hilI : (i : Int) < (L.length : Int) := by omega
      have hx64 := hid (fun k hk => sm_at SM.out hil (k := k) hk)
      have hln := RL.out i hil
      have hilH := hid hil
      generalize L.getD i [] = li at *
      replace hrow := hid hrow
      clear HR SM RL
      go_wp2_with fail
      clear hc
      go_loopw [41] (fun tk wr2 => ∃ k : Nat, tk = .int .i64 (k : Int) ∧ k ≤ li.length ∧ wr2 = wr) (fun t _ => li.length - (intOf t).toNat)
      case atStart => exact ⟨0, rfl, by omega, rfl⟩
      case round =>
        obtain ⟨k, rfl, hk, hwr2⟩ := hrel
        by_cases hkl : k < li.length
        · subst hwr2
          obtain ⟨b', off', rfl, cx⟩ := hrow.out k hkl
          have hx := hx64.out k hkl
          generalize li.getD k 0 = x at *
          have hkI : (k : Int) < (li.length : Int) := by omega
          clear hrow hx64
          by_cases h8 : 8 < li.length
          · have h8I : (8 : Int) < (li.length : Int) := by omega
            go_wp2_with fail
            all_goals
              go_ret
              exact ⟨rfl, B1.out⟩
          · have h8I : ¬ (8 : Int) < (li.length : Int) := by omega
            have es := shl64 (n := n) (by omega)
            by_cases hg : 2 ^ n ≤ x
            · have hgI : ((2 ^ n : Nat) : Int) ≤ (x : Int) := by omega
              generalize (2 : Nat) ^ n = pn at *
              go_wp2_with fail
              all_goals
                go_ret
                exact ⟨rfl, B1.out⟩
            · have hgI : ¬ ((2 ^ n : Nat) : Int) ≤ (x : Int) := by omega
              generalize (2 : Nat) ^ n = pn at *
              go_wp2_with fail
              go_roundw
              case rel => exact ⟨k + 1, by go_num, by omega, by first | rfl | trivial⟩
              case measure => simp [intOf]; omega
        · have e : k = li.length := by omega
          subst e
          subst hwr2
          clear hrow hx64
          go_wp2_with fail
          go_roundw
          case rel => exact ⟨i + 1, by go_num, by have := hilH.out; omega, by first | rfl | trivial⟩
          case measure => have := hilH.out; simp [intOf]; omega
    · have e : i = L.length := by omega
      subst e
      subst hwr
      clear HR SM RL
      go_wp2_with (first
        | (go_at_call 8; refine Calls.mono C8.out ?_; rintro _ w4 ⟨v, l, rfl, hI, hN, hb4⟩; have B4 := hid (B3.out.trans (hb4.mono B3.out.size)); have hll := hN.len; obtain ⟨ra, rc, rfl, -, -⟩ := IntR.open hI; have I4 := hid hI; have N4 := hid hN; have V4 := hid (hv3.out.kept hb4); have R4 := hid (⟨q0.out.kept (K3.out.trans (hb4.mono K3.out.size)), q1.out.kept (K3.out.trans (hb4.mono K3.out.size)), q2.out.kept (K3.out.trans (hb4.mono K3.out.size))⟩ : _ ∧ _ ∧ _); have hM4 := hid (Nat.lt_of_lt_of_le hM3.out hb4.size); have mw := mk.out w4; clear hI hN hb4 C8)
        | (refine wl_store_all 29 _ _ rfl rfl w2.heap.size rfl [.slice xS (setS L L.length).length xSc, .slice xG (setG0 L L.length).length xGc, .slice xF (setF L L.length).length xFc] rfl size29 (by simp [Value.oneCell']) [.slice none 0 0, .slice none 0 0, .slice none 0 0] 29 (VarAt.new w2 [.slice none 0 0, .slice none 0 0, .slice none 0 0] 29) rfl ?_; intro w3 hv ht; have B3 := hid (ht.below (B2.out.alloc B2.out.size _) B2.out.size); have K3 := hid (ht.below ((Below.refl w2.heap.size w2).alloc (Nat.le_refl _) _) (Nat.le_refl _)); have C8 := hid (CP.out w3 B3.out _ _ _ (q0.out.kept K3.out) (q1.out.kept K3.out) (q2.out.kept K3.out)); have y0 := hv.cell 0 rfl; have y1 := hv.cell 1 rfl; have y2 := hv.cell 2 rfl; have hM3 := hid hv.lt; have hv3 := hid hv; clear ht hv)
        | (go_at_call 9; refine Calls.mono (CS.out _ B1.out (by omega)) ?_; rintro _ w2 ⟨xS, xG, xF, rfl, r0, r1, r2, hb2⟩; have B2 := hid (B1.out.trans (hb2.mono B1.out.size)); obtain ⟨xS, xSc, rfl, -⟩ := r0.open; obtain ⟨xG, xGc, rfl, -⟩ := NumR.open r1; obtain ⟨xF, xFc, rfl, -⟩ := r2.open; have q0 := hid r0; have q1 := hid r1; have q2 := hid r2; clear r0 r1 r2 hb2))
      have BN := (Below.refl w4.heap.size w4).alloc (Nat.le_refl _) (.cells (cellsB (List.replicate n false)).toArray 4)
      have J0 : FiW w4 w2.heap.size (.slice xS (setS L L.length).length xSc) (.slice xG (setG0 L L.length).length xGc) (.slice xF (setF L L.length).length xFc) (firstS l n 0) (w4.alloc (.cells (cellsB (List.replicate n false)).toArray 4)) := ⟨V4.out.kept BN, by rw [firstS_zero]; exact VarAt.new w4 _ 4, BN, hM4.out⟩
      have HA := hid (fun i (hi : i < n) X (h : Below w4.heap.size w4 X) => (show ∃ b off, ra = some ⟨b, off, none⟩ ∧ X.cell? ⟨b, off + i, none⟩ = some (.int .i64 ((l.getD i 0 : Nat) : Int)) from by
        obtain ⟨a1, c1, e1, _, h1⟩ := IntR.open I4.out
        obtain ⟨rfl, -, -⟩ := Value.slice.inj e1
        obtain ⟨b, off, k1, k2, k3⟩ := h1 i (by omega)
        exact ⟨b, off, k1, by rw [h.cell k2]; exact k3⟩))
      have HM := hid (fun a b (ha : a < 64) (hb : b < 64) X (h : Below w4.heap.size w4 X) => CM.out a b ha hb X _ _ _ (R4.out.1.kept h) (R4.out.2.1.kept h) (R4.out.2.2.kept h))
      have HF := hid (fun (s : List Bool) (h1 : s.length = n) (h2 : ∀ k, k < n → s.getD k false = firstB l k) => fine_all N4.out (s := s) h1 h2)
      have hM := hM4.out
      generalize w2.heap.size = M at *
      generalize w4.alloc (.cells (cellsB (List.replicate n false)).toArray 4) = Y at *
      generalize hflat : (setS L L.length).flatten ++ setG0 L L.length ++ (setF L L.length).flatten = A at *
      replace J0 := hid J0
      clear CS CP CM HX B1 B2 B3 K3 V4 R4 hM4 mw mk I4 N4 BN q0 q1 q2 hv3 hM3 hTabX hflat y0 y1 y2
      go_loopw [70] (fun ti wr => ∃ k : Nat, ti = .int .i64 (k : Int) ∧ k ≤ n ∧ Hid (FiW w4 M (.slice xS (setS L L.length).length xSc) (.slice xG (setG0 L L.length).length xGc) (.slice xF (setF L L.length).length xFc) (firstS l n k) wr)) (fun t _ => n - (intOf t).toNat)
      case atStart => exact ⟨0, rfl, by omega, J0⟩
      case round =>
        clear J0
        obtain ⟨k, rfl, hk, J⟩ := hrel
        by_cases hkn : k < n
        · have hkI : (k : Int) < (n : Int) := by omega
          obtain ⟨b2, o2, rfl, h2⟩ := HA.out k hkn _ J.out.bel
          have hnext : Hid (k + 1 ≤ n) := hid (by omega)
          clear h2
          go_wp2_with fail
          go_loopw [13, 14] (fun t13 t14 wr => ∃ i : Nat, t14 = .int .i64 (i : Int) ∧ i ≤ k ∧ t13 = .bool (firstN l k i) ∧ Hid (FiW w4 M (.slice xS (setS L L.length).length xSc) (.slice xG (setG0 L L.length).length xGc) (.slice xF (setF L L.length).length xFc) (firstS l n k) wr)) (fun _ t _ => k - (intOf t).toNat)
          case atStart => exact ⟨0, rfl, by omega, by rw [firstN_zero], J⟩
          case round =>
            clear J
            obtain ⟨i, rfl, hi, rfl, J⟩ := hrel
            by_cases hik : i < k
            · have hikI : (i : Int) < (k : Int) := by omega
              obtain ⟨b1, o1, e1, c1⟩ := HA.out i (by omega) _ J.out.bel
              cases e1
              obtain ⟨b3, o3, e3, c2⟩ := HA.out k hkn _ J.out.bel
              cases e3
              have hs := firstN_succ l k i
              generalize l.getD i 0 = yi at *
              generalize l.getD k 0 = yk at *
              generalize firstN l k i = fb at *
              by_cases q : yi = yk
              · subst q
                have hs2 : Hid (firstN l k (i + 1) = false) := hid (by rw [hs]; simp)
                clear hs HA HM HF
                cases fb
                all_goals
                  go_wp2_with fail
                  go_quiet (fail)
                  go_wp2_with fail
                  go_roundw
                  case rel => exact ⟨i + 1, by go_num, by omega, by (try rw [hs2.out]) <;> (first | rfl | simp), hid (J.out.dN _)⟩
                  case measure => simp [intOf]; omega
              · have qI : ¬ ((yi : Int) = (yk : Int)) := by omega
                have hs2 : Hid (firstN l k (i + 1) = fb) := hid (by rw [hs]; simp [q])
                clear hs HA HM HF q
                cases fb
                all_goals
                  go_wp2_with fail
                  go_quiet (fail)
                  go_wp2_with fail
                  go_roundw
                  case rel => exact ⟨i + 1, by go_num, by omega, by (try rw [hs2.out]) <;> (first | rfl | simp [qI]), hid (J.out.dN _)⟩
                  case measure => simp [intOf]; omega
            · have e : i = k := by omega
              subst e
              have hfl : (firstS l n i).length = n := firstS_len _ _ _
              have cj := J.out.bj.cell i (cellsB_at (by omega))
              have fj := J.out.bj.frozen i
              have hp := hid (J.out.put i (firstB l i))
              rw [firstS_set hkn] at hp
              rw [show firstN l i i = firstB l i from rfl]
              generalize firstB l i = fb at *
              generalize (firstS l n i).getD i false = ob at *
              clear HA HM HF
              go_wp2_with fail
              go_roundw
              case rel => exact ⟨i + 1, by go_num, by omega, hp⟩
              case measure => simp [intOf]; omega
        · have e : k = n := by omega
          subst e
          have H1 := hid (HF.out (firstS l k k) (firstS_len _ _ _) (fun j hj => firstS_at hj))
          have hls := hid (firstS_len l k k)
          generalize firstS l k k = s0 at *
          clear HF
          clear hM hll
          go_wp2_with fail
          go_loopw [15] (fun ti wr => ∃ r : Nat, ti = .int .i64 (r : Int) ∧ r ≤ k ∧ Hid (FiW w4 M (.slice xS (setS L L.length).length xSc) (.slice xG (setG0 L L.length).length xGc) (.slice xF (setF L L.length).length xFc) (roundsF (updB k A l) k r s0) wr)) (fun t _ => k - (intOf t).toNat)
          case atStart => exact ⟨0, rfl, by omega, J⟩
          case round =>
            clear J
            obtain ⟨r, rfl, hr, J⟩ := hrel
            by_cases hrk : r < k
            · have hrI : (r : Int) < (k : Int) := by omega
              have hm2 : Hid ((roundsF (updB k A l) k r s0).length = k) := hid (by rw [roundsB_len]; exact hls.out)
              have hnext : Hid (roundsF (updB k A l) k (r + 1) s0 = roundF (updB k A l) k k (roundsF (updB k A l) k r s0)) := hid rfl
              generalize roundsF (updB k A l) k r s0 = m2 at *
              clear H1
              go_wp2_with fail
              go_loopw [16] (fun ti wr => ∃ a : Nat, ti = .int .i64 (a : Int) ∧ a ≤ k ∧ Hid (FiW w4 M (.slice xS (setS L L.length).length xSc) (.slice xG (setG0 L L.length).length xGc) (.slice xF (setF L L.length).length xFc) (roundF (updB k A l) k a m2) wr)) (fun t _ => k - (intOf t).toNat)
              case atStart => exact ⟨0, rfl, by omega, J⟩
              case round =>
                clear J
                obtain ⟨a, rfl, ha, J⟩ := hrel
                by_cases hak : a < k
                · have haI : (a : Int) < (k : Int) := by omega
                  have hm3 : Hid ((roundF (updB k A l) k a m2).length = k) := hid (by rw [roundB_len]; exact hm2.out)
                  have hnext2 : Hid (roundF (updB k A l) k (a + 1) m2 = innerF (updB k A l) a k (roundF (updB k A l) k a m2)) := hid rfl
                  generalize roundF (updB k A l) k a m2 = m3 at *
                  go_wp2_with fail
                  go_loopw [17] (fun ti wr => ∃ b : Nat, ti = .int .i64 (b : Int) ∧ b ≤ k ∧ Hid (FiW w4 M (.slice xS (setS L L.length).length xSc) (.slice xG (setG0 L L.length).length xGc) (.slice xF (setF L L.length).length xFc) (innerF (updB k A l) a b m3) wr)) (fun t _ => k - (intOf t).toNat)
                  case atStart => exact ⟨0, rfl, by omega, J⟩
                  case round =>
                    clear J
                    obtain ⟨b, rfl, hb, J⟩ := hrel
                    by_cases hbk : b < k
                    · have hbI : (b : Int) < (k : Int) := by omega
                      have hm4 : (innerF (updB k A l) a b m3).length = k := by rw [innerB_len]; exact hm3.out
                      have hnext3 : innerF (updB k A l) a (b + 1) m3 = updB k A l a b (innerF (updB k A l) a b m3) := rfl
                      have hbn : Hid (b + 1 ≤ k) := hid (by omega)
                      generalize innerF (updB k A l) a b m3 = m4 at *
                      obtain ⟨b1, o1, rfl, -⟩ := HA.out a hak _ J.out.bel
                      have SZ := hid (fun X (h : Below wr.heap.size wr X) => (⟨(J.out.kept h).bj.cell a (cellsB_at (by omega)), (by
                        obtain ⟨b2, o2, e2, c2⟩ := HA.out a hak _ (J.out.kept h).bel
                        cases e2
                        exact c2), (by
                        obtain ⟨b2, o2, e2, c2⟩ := HA.out b hbk _ (J.out.kept h).bel
                        cases e2
                        exact c2), (J.out.kept h).bx.cell 0 rfl, (J.out.kept h).bx.cell 1 rfl, (J.out.kept h).bx.cell 2 rfl⟩ : X.cell? ⟨w4.heap.size, a, none⟩ = some (.bool (m4.getD a false)) ∧ X.cell? ⟨b1, o1 + a, none⟩ = some (.int .i64 ((l.getD a 0 : Nat) : Int)) ∧ X.cell? ⟨b1, o1 + b, none⟩ = some (.int .i64 ((l.getD b 0 : Nat) : Int)) ∧ X.cell? ⟨M, 0, none⟩ = some (.slice xS (setS L L.length).length xSc) ∧ X.cell? ⟨M, 1, none⟩ = some (.slice xG (setG0 L L.length).length xGc) ∧ X.cell? ⟨M, 2, none⟩ = some (.slice xF (setF L L.length).length xFc)))
                      have SJ := hid (fun X (h : Below wr.heap.size wr X) => (⟨(J.out.kept h).bj.cell b (cellsB_at (by omega)), (J.out.kept h).bj.frozen b⟩ : X.cell? ⟨w4.heap.size, b, none⟩ = some (.bool (m4.getD b false)) ∧ X.frozen? ⟨w4.heap.size, b, none⟩ = false))
                      have CM := hid (fun X (h : Below wr.heap.size wr X) => HM.out a b (by omega) (by omega) X (J.out.bel.trans (h.mono J.out.bel.size)))
                      cases hja : m4.getD a false
                      · have hn3 : Hid (innerF (updB k A l) a (b + 1) m3 = m4) := hid (by rw [hnext3]; exact updB_no (fun h => by rw [hja] at h; exact absurd h.1 (by decide)))
                        rw [hja] at SZ
                        clear CM SJ HM HA hnext3 hja
                        generalize l.getD a 0 = ya at *
                        generalize l.getD b 0 = yb at *
                        go_wp2_with fail
                        refine wp_region_held_drew (S := fun (w' : World) => w'.cell? ⟨w4.heap.size, a, none⟩ = some (.bool false) ∧ w'.cell? ⟨b1, o1 + a, none⟩ = some (.int .i64 (ya : Int)) ∧ w'.cell? ⟨b1, o1 + b, none⟩ = some (.int .i64 (yb : Int)) ∧ w'.cell? ⟨M, 0, none⟩ = some (.slice xS (setS L L.length).length xSc) ∧ w'.cell? ⟨M, 1, none⟩ = some (.slice xG (setG0 L L.length).length xGc) ∧ w'.cell? ⟨M, 2, none⟩ = some (.slice xF (setF L L.length).length xFc)) (by kernel_rfl) (SZ.out _ (Below.refl _ _).drew) (fun hHeld => ?_)
                        refine wT 0 { dst := some 110, op := Go.Op.move (Go.Operand.tmp 11), type := 44, pos := "law.go:132", after := #[], guard := none } hHeld ?_
                        try simp only [Act.put, sA, sB, sC]
                        refine wT 1 { dst := some 111, op := Go.Op.move (Go.Operand.tmp 16), type := 3, pos := "law.go:132", after := #[], guard := none } hHeld ?_
                        try simp only [Act.put, sA, sB, sC]
                        refine wT 2 { dst := some 112, op := Go.Op.indexAddr 44 (Go.Operand.tmp 110) (Go.Operand.tmp 111), type := 0, pos := "law.go:132", after := #[{ on := 0, ground := Go.Ground.data }, { on := 1, ground := Go.Ground.data }], guard := none } hHeld ?_
                        try simp only [Act.put, sA, sB, sC]
                        refine wT 3 { dst := some 113, op := Go.Op.load 4 (Go.Operand.tmp 112), type := 4, pos := "law.go:132", after := #[{ on := 2, ground := Go.Ground.data }], guard := none } hHeld ?_
                        try simp only [Act.put, sA, sB, sC]
                        refine wT 4 { dst := some 114, op := Go.Op.move (Go.Operand.tmp 113), type := 4, pos := "law.go:132", after := #[{ on := 3, ground := Go.Ground.data }], guard := none } hHeld ?_
                        try simp only [Act.put, sA, sB, sC]
                        refine wU 5 { dst := some 115, op := Go.Op.move (Go.Operand.tmp 10), type := 25, pos := "law.go:132", after := #[{ on := 4, ground := Go.Ground.guard }], guard := some (4, true) } hHeld ?_
                        try simp only [Act.put, sA, sB, sC]
                        refine wU 6 { dst := some 116, op := Go.Op.move (Go.Operand.tmp 16), type := 3, pos := "law.go:132", after := #[{ on := 4, ground := Go.Ground.guard }], guard := some (4, true) } hHeld ?_
                        try simp only [Act.put, sA, sB, sC]
                        refine wU 7 { dst := some 117, op := Go.Op.indexAddr 25 (Go.Operand.tmp 115) (Go.Operand.tmp 116), type := 0, pos := "law.go:132", after := #[{ on := 5, ground := Go.Ground.data }, { on := 6, ground := Go.Ground.data }, { on := 4, ground := Go.Ground.guard }], guard := some (4, true) } hHeld ?_
                        try simp only [Act.put, sA, sB, sC]
                        refine wU 8 { dst := some 118, op := Go.Op.load 3 (Go.Operand.tmp 117), type := 3, pos := "law.go:132", after := #[{ on := 7, ground := Go.Ground.data }, { on := 4, ground := Go.Ground.guard }], guard := some (4, true) } hHeld ?_
                        try simp only [Act.put, sA, sB, sC]
                        refine wU 9 { dst := some 119, op := Go.Op.move (Go.Operand.tmp 10), type := 25, pos := "law.go:132", after := #[{ on := 4, ground := Go.Ground.guard }], guard := some (4, true) } hHeld ?_
                        try simp only [Act.put, sA, sB, sC]
                        refine wU 10 { dst := some 120, op := Go.Op.move (Go.Operand.tmp 17), type := 3, pos := "law.go:132", after := #[{ on := 4, ground := Go.Ground.guard }], guard := some (4, true) } hHeld ?_
                        try simp only [Act.put, sA, sB, sC]
                        refine wU 11 { dst := some 121, op := Go.Op.indexAddr 25 (Go.Operand.tmp 119) (Go.Operand.tmp 120), type := 0, pos := "law.go:132", after := #[{ on := 9, ground := Go.Ground.data }, { on := 10, ground := Go.Ground.data }, { on := 4, ground := Go.Ground.guard }], guard := some (4, true) } hHeld ?_
                        try simp only [Act.put, sA, sB, sC]
                        refine wU 12 { dst := some 122, op := Go.Op.load 3 (Go.Operand.tmp 121), type := 3, pos := "law.go:132", after := #[{ on := 11, ground := Go.Ground.data }, { on := 4, ground := Go.Ground.guard }], guard := some (4, true) } hHeld ?_
                        try simp only [Act.put, sA, sB, sC]
                        refine wU 13 { dst := some 123, op := Go.Op.binOp Go.BinOp.eql 3 (Go.Operand.tmp 118) (Go.Operand.tmp 122) 3, type := 4, pos := "law.go:132", after := #[{ on := 8, ground := Go.Ground.data }, { on := 12, ground := Go.Ground.data }, { on := 4, ground := Go.Ground.guard }], guard := some (4, true) } hHeld ?_
                        try simp only [Act.put, sA, sB, sC]
                        refine wT 14 { dst := some 124, op := Go.Op.pick (Go.Operand.tmp 114) (Go.Operand.tmp 123) (Go.Operand.const (Go.Value.bool false)), type := 4, pos := "law.go:132", after := #[{ on := 4, ground := Go.Ground.data }, { on := 13, ground := Go.Ground.data }], guard := none } hHeld ?_
                        try simp only [Act.put, sA, sB, sC]
                        refine wT 15 { dst := some 125, op := Go.Op.move (Go.Operand.tmp 124), type := 4, pos := "law.go:132", after := #[{ on := 14, ground := Go.Ground.data }, { on := 4, ground := Go.Ground.chain }], guard := none } hHeld ?_
                        try simp only [Act.put, sA, sB, sC]
                        refine wU 16 { dst := some 126, op := Go.Op.move (Go.Operand.tmp 0), type := 3, pos := "law.go:132", after := #[{ on := 15, ground := Go.Ground.guard }], guard := some (15, true) } hHeld ?_
                        try simp only [Act.put, sA, sB, sC]
                        refine wU 17 { dst := some 127, op := Go.Op.load 29 (Go.Operand.tmp 9), type := 29, pos := "law.go:132", after := #[{ on := 15, ground := Go.Ground.guard }], guard := some (15, true) } hHeld ?_
                        try simp only [Act.put, sA, sB, sC]
                        refine wU 18 { dst := some 128, op := Go.Op.move (Go.Operand.tmp 16), type := 3, pos := "law.go:132", after := #[{ on := 15, ground := Go.Ground.guard }], guard := some (15, true) } hHeld ?_
                        try simp only [Act.put, sA, sB, sC]
                        refine wU 19 { dst := some 129, op := Go.Op.move (Go.Operand.tmp 17), type := 3, pos := "law.go:132", after := #[{ on := 15, ground := Go.Ground.guard }], guard := some (15, true) } hHeld ?_
                        try simp only [Act.put, sA, sB, sC]
                        refine wU 20 { dst := some 130, op := Go.Op.call { callee := Go.Callee.value (Go.Operand.func 16), args := #[Go.Operand.tmp 126, Go.Operand.tmp 127, Go.Operand.tmp 128, Go.Operand.tmp 129], argTypes := #[3, 29, 3, 3] }, type := 4, pos := "law.go:132", after := #[{ on := 16, ground := Go.Ground.data }, { on := 17, ground := Go.Ground.data }, { on := 18, ground := Go.Ground.data }, { on := 19, ground := Go.Ground.data }, { on := 15, ground := Go.Ground.chain }, { on := 15, ground := Go.Ground.guard }], guard := some (15, true) } hHeld ?_
                        try simp only [Act.put, sA, sB, sC]
                        refine wT 21 { dst := some 131, op := Go.Op.pick (Go.Operand.tmp 125) (Go.Operand.tmp 130) (Go.Operand.const (Go.Value.bool false)), type := 4, pos := "law.go:132", after := #[{ on := 15, ground := Go.Ground.data }, { on := 20, ground := Go.Ground.data }], guard := none } hHeld ?_
                        try simp only [Act.put, sA, sB, sC]
                        refine wpAnyH_done (by kernel_rfl) ?_ _
                        clear hHeld
                        go_wp2_with fail
                        go_roundw
                        case rel => exact ⟨b + 1, by go_num, hbn.out, hid (by rw [hn3.out]; exact J.out.kept (Below.refl _ _).drew)⟩
                        case measure => have := hbn.out; simp [intOf]; omega
                      · rw [hja] at SZ
                        by_cases q1 : l.getD a 0 = l.getD b 0
                        · rw [← q1] at SZ
                          cases hm : MeetB k A a b
                          · have hn3 : Hid (innerF (updB k A l) a (b + 1) m3 = m4) := hid (by rw [hnext3]; exact updB_no (fun h => by rw [hm] at h; exact absurd h.2.2 (by decide)))
                            rw [hm] at CM
                            clear SJ HM HA hnext3 hja q1 hm
                            generalize l.getD a 0 = ya at *
                            go_wp2_with fail
                            refine wp_region_held_drew (S := fun (w' : World) => w'.cell? ⟨w4.heap.size, a, none⟩ = some (.bool true) ∧ w'.cell? ⟨b1, o1 + a, none⟩ = some (.int .i64 (ya : Int)) ∧ w'.cell? ⟨b1, o1 + b, none⟩ = some (.int .i64 (ya : Int)) ∧ w'.cell? ⟨M, 0, none⟩ = some (.slice xS (setS L L.length).length xSc) ∧ w'.cell? ⟨M, 1, none⟩ = some (.slice xG (setG0 L L.length).length xGc) ∧ w'.cell? ⟨M, 2, none⟩ = some (.slice xF (setF L L.length).length xFc)) (by kernel_rfl) (SZ.out _ (Below.refl _ _).drew) (fun hHeld => ?_)
                            refine wT 0 { dst := some 110, op := Go.Op.move (Go.Operand.tmp 11), type := 44, pos := "law.go:132", after := #[], guard := none } hHeld ?_
                            try simp only [Act.put, sA, sB, sC]
                            refine wT 1 { dst := some 111, op := Go.Op.move (Go.Operand.tmp 16), type := 3, pos := "law.go:132", after := #[], guard := none } hHeld ?_
                            try simp only [Act.put, sA, sB, sC]
                            refine wT 2 { dst := some 112, op := Go.Op.indexAddr 44 (Go.Operand.tmp 110) (Go.Operand.tmp 111), type := 0, pos := "law.go:132", after := #[{ on := 0, ground := Go.Ground.data }, { on := 1, ground := Go.Ground.data }], guard := none } hHeld ?_
                            try simp only [Act.put, sA, sB, sC]
                            refine wT 3 { dst := some 113, op := Go.Op.load 4 (Go.Operand.tmp 112), type := 4, pos := "law.go:132", after := #[{ on := 2, ground := Go.Ground.data }], guard := none } hHeld ?_
                            try simp only [Act.put, sA, sB, sC]
                            refine wT 4 { dst := some 114, op := Go.Op.move (Go.Operand.tmp 113), type := 4, pos := "law.go:132", after := #[{ on := 3, ground := Go.Ground.data }], guard := none } hHeld ?_
                            try simp only [Act.put, sA, sB, sC]
                            refine wT 5 { dst := some 115, op := Go.Op.move (Go.Operand.tmp 10), type := 25, pos := "law.go:132", after := #[{ on := 4, ground := Go.Ground.guard }], guard := some (4, true) } hHeld ?_
                            try simp only [Act.put, sA, sB, sC]
                            refine wT 6 { dst := some 116, op := Go.Op.move (Go.Operand.tmp 16), type := 3, pos := "law.go:132", after := #[{ on := 4, ground := Go.Ground.guard }], guard := some (4, true) } hHeld ?_
                            try simp only [Act.put, sA, sB, sC]
                            refine wT 7 { dst := some 117, op := Go.Op.indexAddr 25 (Go.Operand.tmp 115) (Go.Operand.tmp 116), type := 0, pos := "law.go:132", after := #[{ on := 5, ground := Go.Ground.data }, { on := 6, ground := Go.Ground.data }, { on := 4, ground := Go.Ground.guard }], guard := some (4, true) } hHeld ?_
                            try simp only [Act.put, sA, sB, sC]
                            refine wT 8 { dst := some 118, op := Go.Op.load 3 (Go.Operand.tmp 117), type := 3, pos := "law.go:132", after := #[{ on := 7, ground := Go.Ground.data }, { on := 4, ground := Go.Ground.guard }], guard := some (4, true) } hHeld ?_
                            try simp only [Act.put, sA, sB, sC]
                            refine wT 9 { dst := some 119, op := Go.Op.move (Go.Operand.tmp 10), type := 25, pos := "law.go:132", after := #[{ on := 4, ground := Go.Ground.guard }], guard := some (4, true) } hHeld ?_
                            try simp only [Act.put, sA, sB, sC]
                            refine wT 10 { dst := some 120, op := Go.Op.move (Go.Operand.tmp 17), type := 3, pos := "law.go:132", after := #[{ on := 4, ground := Go.Ground.guard }], guard := some (4, true) } hHeld ?_
                            try simp only [Act.put, sA, sB, sC]
                            refine wT 11 { dst := some 121, op := Go.Op.indexAddr 25 (Go.Operand.tmp 119) (Go.Operand.tmp 120), type := 0, pos := "law.go:132", after := #[{ on := 9, ground := Go.Ground.data }, { on := 10, ground := Go.Ground.data }, { on := 4, ground := Go.Ground.guard }], guard := some (4, true) } hHeld ?_
                            try simp only [Act.put, sA, sB, sC]
                            refine wT 12 { dst := some 122, op := Go.Op.load 3 (Go.Operand.tmp 121), type := 3, pos := "law.go:132", after := #[{ on := 11, ground := Go.Ground.data }, { on := 4, ground := Go.Ground.guard }], guard := some (4, true) } hHeld ?_
                            try simp only [Act.put, sA, sB, sC]
                            refine wT 13 { dst := some 123, op := Go.Op.binOp Go.BinOp.eql 3 (Go.Operand.tmp 118) (Go.Operand.tmp 122) 3, type := 4, pos := "law.go:132", after := #[{ on := 8, ground := Go.Ground.data }, { on := 12, ground := Go.Ground.data }, { on := 4, ground := Go.Ground.guard }], guard := some (4, true) } (v := .bool true) hHeld ?_ (by intro w0 hSw; (try dsimp only at hSw); go_simp; first | done | simp)
                            try simp only [Act.put, sA, sB, sC]
                            refine wT 14 { dst := some 124, op := Go.Op.pick (Go.Operand.tmp 114) (Go.Operand.tmp 123) (Go.Operand.const (Go.Value.bool false)), type := 4, pos := "law.go:132", after := #[{ on := 4, ground := Go.Ground.data }, { on := 13, ground := Go.Ground.data }], guard := none } hHeld ?_
                            try simp only [Act.put, sA, sB, sC]
                            refine wT 15 { dst := some 125, op := Go.Op.move (Go.Operand.tmp 124), type := 4, pos := "law.go:132", after := #[{ on := 14, ground := Go.Ground.data }, { on := 4, ground := Go.Ground.chain }], guard := none } hHeld ?_
                            try simp only [Act.put, sA, sB, sC]
                            refine wT 16 { dst := some 126, op := Go.Op.move (Go.Operand.tmp 0), type := 3, pos := "law.go:132", after := #[{ on := 15, ground := Go.Ground.guard }], guard := some (15, true) } hHeld ?_
                            try simp only [Act.put, sA, sB, sC]
                            refine wT 17 { dst := some 127, op := Go.Op.load 29 (Go.Operand.tmp 9), type := 29, pos := "law.go:132", after := #[{ on := 15, ground := Go.Ground.guard }], guard := some (15, true) } hHeld ?_
                            try simp only [Act.put, sA, sB, sC]
                            refine wT 18 { dst := some 128, op := Go.Op.move (Go.Operand.tmp 16), type := 3, pos := "law.go:132", after := #[{ on := 15, ground := Go.Ground.guard }], guard := some (15, true) } hHeld ?_
                            try simp only [Act.put, sA, sB, sC]
                            refine wT 19 { dst := some 129, op := Go.Op.move (Go.Operand.tmp 17), type := 3, pos := "law.go:132", after := #[{ on := 15, ground := Go.Ground.guard }], guard := some (15, true) } hHeld ?_
                            try simp only [Act.put, sA, sB, sC]
                            refine wO 20 { dst := some 130, op := Go.Op.call { callee := Go.Callee.value (Go.Operand.func 16), args := #[Go.Operand.tmp 126, Go.Operand.tmp 127, Go.Operand.tmp 128, Go.Operand.tmp 129], argTypes := #[3, 29, 3, 3] }, type := 4, pos := "law.go:132", after := #[{ on := 16, ground := Go.Ground.data }, { on := 17, ground := Go.Ground.data }, { on := 18, ground := Go.Ground.data }, { on := 19, ground := Go.Ground.data }, { on := 15, ground := Go.Ground.chain }, { on := 15, ground := Go.Ground.guard }], guard := some (15, true) } (fun K' hK' => ?_)
                            go_simp
                            go_at_call 16
                            refine Calls.mono (CM.out _ (Below.refl _ _).drew) ?_
                            rintro _ w8 ⟨rfl, hb8⟩
                            have k8 := hid ((Below.refl _ _).drew.trans hb8)
                            have hz := hid (SZ.out w8 k8.out)
                            clear hb8
                            refine hK'.out _ _ hz.out (fun hHeld => ?_)
                            clear hK' K'
                            try simp only [Act.put, sA, sB, sC]
                            refine wT 21 { dst := some 131, op := Go.Op.pick (Go.Operand.tmp 125) (Go.Operand.tmp 130) (Go.Operand.const (Go.Value.bool false)), type := 4, pos := "law.go:132", after := #[{ on := 15, ground := Go.Ground.data }, { on := 20, ground := Go.Ground.data }], guard := none } hHeld ?_
                            try simp only [Act.put, sA, sB, sC]
                            refine wpAnyH_done (by kernel_rfl) ?_ _
                            clear hHeld
                            go_wp2_with fail
                            go_roundw
                            case rel => exact ⟨b + 1, by go_num, hbn.out, hid (by rw [hn3.out]; exact J.out.kept k8.out)⟩
                            case measure => have := hbn.out; simp [intOf]; omega
                          · have hn3 : Hid (innerF (updB k A l) a (b + 1) m3 = m4.set b true) := hid (by rw [hnext3]; exact updB_yes ⟨hja, q1, hm⟩)
                            rw [hm] at CM
                            clear HM HA hnext3 hja q1 hm
                            generalize l.getD a 0 = ya at *
                            go_wp2_with fail
                            refine wp_region_held_drew (S := fun (w' : World) => w'.cell? ⟨w4.heap.size, a, none⟩ = some (.bool true) ∧ w'.cell? ⟨b1, o1 + a, none⟩ = some (.int .i64 (ya : Int)) ∧ w'.cell? ⟨b1, o1 + b, none⟩ = some (.int .i64 (ya : Int)) ∧ w'.cell? ⟨M, 0, none⟩ = some (.slice xS (setS L L.length).length xSc) ∧ w'.cell? ⟨M, 1, none⟩ = some (.slice xG (setG0 L L.length).length xGc) ∧ w'.cell? ⟨M, 2, none⟩ = some (.slice xF (setF L L.length).length xFc)) (by kernel_rfl) (SZ.out _ (Below.refl _ _).drew) (fun hHeld => ?_)
                            refine wT 0 { dst := some 110, op := Go.Op.move (Go.Operand.tmp 11), type := 44, pos := "law.go:132", after := #[], guard := none } hHeld ?_
                            try simp only [Act.put, sA, sB, sC]
                            refine wT 1 { dst := some 111, op := Go.Op.move (Go.Operand.tmp 16), type := 3, pos := "law.go:132", after := #[], guard := none } hHeld ?_
                            try simp only [Act.put, sA, sB, sC]
                            refine wT 2 { dst := some 112, op := Go.Op.indexAddr 44 (Go.Operand.tmp 110) (Go.Operand.tmp 111), type := 0, pos := "law.go:132", after := #[{ on := 0, ground := Go.Ground.data }, { on := 1, ground := Go.Ground.data }], guard := none } hHeld ?_
                            try simp only [Act.put, sA, sB, sC]
                            refine wT 3 { dst := some 113, op := Go.Op.load 4 (Go.Operand.tmp 112), type := 4, pos := "law.go:132", after := #[{ on := 2, ground := Go.Ground.data }], guard := none } hHeld ?_
                            try simp only [Act.put, sA, sB, sC]
                            refine wT 4 { dst := some 114, op := Go.Op.move (Go.Operand.tmp 113), type := 4, pos := "law.go:132", after := #[{ on := 3, ground := Go.Ground.data }], guard := none } hHeld ?_
                            try simp only [Act.put, sA, sB, sC]
                            refine wT 5 { dst := some 115, op := Go.Op.move (Go.Operand.tmp 10), type := 25, pos := "law.go:132", after := #[{ on := 4, ground := Go.Ground.guard }], guard := some (4, true) } hHeld ?_
                            try simp only [Act.put, sA, sB, sC]
                            refine wT 6 { dst := some 116, op := Go.Op.move (Go.Operand.tmp 16), type := 3, pos := "law.go:132", after := #[{ on := 4, ground := Go.Ground.guard }], guard := some (4, true) } hHeld ?_
                            try simp only [Act.put, sA, sB, sC]
                            refine wT 7 { dst := some 117, op := Go.Op.indexAddr 25 (Go.Operand.tmp 115) (Go.Operand.tmp 116), type := 0, pos := "law.go:132", after := #[{ on := 5, ground := Go.Ground.data }, { on := 6, ground := Go.Ground.data }, { on := 4, ground := Go.Ground.guard }], guard := some (4, true) } hHeld ?_
                            try simp only [Act.put, sA, sB, sC]
                            refine wT 8 { dst := some 118, op := Go.Op.load 3 (Go.Operand.tmp 117), type := 3, pos := "law.go:132", after := #[{ on := 7, ground := Go.Ground.data }, { on := 4, ground := Go.Ground.guard }], guard := some (4, true) } hHeld ?_
                            try simp only [Act.put, sA, sB, sC]
                            refine wT 9 { dst := some 119, op := Go.Op.move (Go.Operand.tmp 10), type := 25, pos := "law.go:132", after := #[{ on := 4, ground := Go.Ground.guard }], guard := some (4, true) } hHeld ?_
                            try simp only [Act.put, sA, sB, sC]
                            refine wT 10 { dst := some 120, op := Go.Op.move (Go.Operand.tmp 17), type := 3, pos := "law.go:132", after := #[{ on := 4, ground := Go.Ground.guard }], guard := some (4, true) } hHeld ?_
                            try simp only [Act.put, sA, sB, sC]
                            refine wT 11 { dst := some 121, op := Go.Op.indexAddr 25 (Go.Operand.tmp 119) (Go.Operand.tmp 120), type := 0, pos := "law.go:132", after := #[{ on := 9, ground := Go.Ground.data }, { on := 10, ground := Go.Ground.data }, { on := 4, ground := Go.Ground.guard }], guard := some (4, true) } hHeld ?_
                            try simp only [Act.put, sA, sB, sC]
                            refine wT 12 { dst := some 122, op := Go.Op.load 3 (Go.Operand.tmp 121), type := 3, pos := "law.go:132", after := #[{ on := 11, ground := Go.Ground.data }, { on := 4, ground := Go.Ground.guard }], guard := some (4, true) } hHeld ?_
                            try simp only [Act.put, sA, sB, sC]
                            refine wT 13 { dst := some 123, op := Go.Op.binOp Go.BinOp.eql 3 (Go.Operand.tmp 118) (Go.Operand.tmp 122) 3, type := 4, pos := "law.go:132", after := #[{ on := 8, ground := Go.Ground.data }, { on := 12, ground := Go.Ground.data }, { on := 4, ground := Go.Ground.guard }], guard := some (4, true) } (v := .bool true) hHeld ?_ (by intro w0 hSw; (try dsimp only at hSw); go_simp; first | done | simp)
                            try simp only [Act.put, sA, sB, sC]
                            refine wT 14 { dst := some 124, op := Go.Op.pick (Go.Operand.tmp 114) (Go.Operand.tmp 123) (Go.Operand.const (Go.Value.bool false)), type := 4, pos := "law.go:132", after := #[{ on := 4, ground := Go.Ground.data }, { on := 13, ground := Go.Ground.data }], guard := none } hHeld ?_
                            try simp only [Act.put, sA, sB, sC]
                            refine wT 15 { dst := some 125, op := Go.Op.move (Go.Operand.tmp 124), type := 4, pos := "law.go:132", after := #[{ on := 14, ground := Go.Ground.data }, { on := 4, ground := Go.Ground.chain }], guard := none } hHeld ?_
                            try simp only [Act.put, sA, sB, sC]
                            refine wT 16 { dst := some 126, op := Go.Op.move (Go.Operand.tmp 0), type := 3, pos := "law.go:132", after := #[{ on := 15, ground := Go.Ground.guard }], guard := some (15, true) } hHeld ?_
                            try simp only [Act.put, sA, sB, sC]
                            refine wT 17 { dst := some 127, op := Go.Op.load 29 (Go.Operand.tmp 9), type := 29, pos := "law.go:132", after := #[{ on := 15, ground := Go.Ground.guard }], guard := some (15, true) } hHeld ?_
                            try simp only [Act.put, sA, sB, sC]
                            refine wT 18 { dst := some 128, op := Go.Op.move (Go.Operand.tmp 16), type := 3, pos := "law.go:132", after := #[{ on := 15, ground := Go.Ground.guard }], guard := some (15, true) } hHeld ?_
                            try simp only [Act.put, sA, sB, sC]
                            refine wT 19 { dst := some 129, op := Go.Op.move (Go.Operand.tmp 17), type := 3, pos := "law.go:132", after := #[{ on := 15, ground := Go.Ground.guard }], guard := some (15, true) } hHeld ?_
                            try simp only [Act.put, sA, sB, sC]
                            refine wO 20 { dst := some 130, op := Go.Op.call { callee := Go.Callee.value (Go.Operand.func 16), args := #[Go.Operand.tmp 126, Go.Operand.tmp 127, Go.Operand.tmp 128, Go.Operand.tmp 129], argTypes := #[3, 29, 3, 3] }, type := 4, pos := "law.go:132", after := #[{ on := 16, ground := Go.Ground.data }, { on := 17, ground := Go.Ground.data }, { on := 18, ground := Go.Ground.data }, { on := 19, ground := Go.Ground.data }, { on := 15, ground := Go.Ground.chain }, { on := 15, ground := Go.Ground.guard }], guard := some (15, true) } (fun K' hK' => ?_)
                            go_simp
                            go_at_call 16
                            refine Calls.mono (CM.out _ (Below.refl _ _).drew) ?_
                            rintro _ w8 ⟨rfl, hb8⟩
                            have k8 := hid ((Below.refl _ _).drew.trans hb8)
                            have hz := hid (SZ.out w8 k8.out)
                            clear hb8
                            refine hK'.out _ _ hz.out (fun hHeld => ?_)
                            clear hK' K'
                            try simp only [Act.put, sA, sB, sC]
                            refine wT 21 { dst := some 131, op := Go.Op.pick (Go.Operand.tmp 125) (Go.Operand.tmp 130) (Go.Operand.const (Go.Value.bool false)), type := 4, pos := "law.go:132", after := #[{ on := 15, ground := Go.Ground.data }, { on := 20, ground := Go.Ground.data }], guard := none } hHeld ?_
                            try simp only [Act.put, sA, sB, sC]
                            refine wpAnyH_done (by kernel_rfl) ?_ _
                            clear hHeld
                            have z1 := (SJ.out w8 k8.out).1
                            have z2 := (SJ.out w8 k8.out).2
                            go_wp2_with fail
                            go_roundw
                            case rel => exact ⟨b + 1, by go_num, hbn.out, hid (by rw [hn3.out]; exact (J.out.kept k8.out).put b true)⟩
                            case measure => have := hbn.out; simp [intOf]; omega
                        · have hn3 : Hid (innerF (updB k A l) a (b + 1) m3 = m4) := hid (by rw [hnext3]; exact updB_no (fun h => q1 h.2.1))
                          have q1I : ¬ ((l.getD a 0 : Nat) : Int) = ((l.getD b 0 : Nat) : Int) := by omega
                          clear CM SJ HM HA hnext3 hja q1
                          generalize l.getD a 0 = ya at *
                          generalize l.getD b 0 = yb at *
                          go_wp2_with fail
                          refine wp_region_held_drew (S := fun (w' : World) => w'.cell? ⟨w4.heap.size, a, none⟩ = some (.bool true) ∧ w'.cell? ⟨b1, o1 + a, none⟩ = some (.int .i64 (ya : Int)) ∧ w'.cell? ⟨b1, o1 + b, none⟩ = some (.int .i64 (yb : Int)) ∧ w'.cell? ⟨M, 0, none⟩ = some (.slice xS (setS L L.length).length xSc) ∧ w'.cell? ⟨M, 1, none⟩ = some (.slice xG (setG0 L L.length).length xGc) ∧ w'.cell? ⟨M, 2, none⟩ = some (.slice xF (setF L L.length).length xFc)) (by kernel_rfl) (SZ.out _ (Below.refl _ _).drew) (fun hHeld => ?_)
                          refine wT 0 { dst := some 110, op := Go.Op.move (Go.Operand.tmp 11), type := 44, pos := "law.go:132", after := #[], guard := none } hHeld ?_
                          try simp only [Act.put, sA, sB, sC]
                          refine wT 1 { dst := some 111, op := Go.Op.move (Go.Operand.tmp 16), type := 3, pos := "law.go:132", after := #[], guard := none } hHeld ?_
                          try simp only [Act.put, sA, sB, sC]
                          refine wT 2 { dst := some 112, op := Go.Op.indexAddr 44 (Go.Operand.tmp 110) (Go.Operand.tmp 111), type := 0, pos := "law.go:132", after := #[{ on := 0, ground := Go.Ground.data }, { on := 1, ground := Go.Ground.data }], guard := none } hHeld ?_
                          try simp only [Act.put, sA, sB, sC]
                          refine wT 3 { dst := some 113, op := Go.Op.load 4 (Go.Operand.tmp 112), type := 4, pos := "law.go:132", after := #[{ on := 2, ground := Go.Ground.data }], guard := none } hHeld ?_
                          try simp only [Act.put, sA, sB, sC]
                          refine wT 4 { dst := some 114, op := Go.Op.move (Go.Operand.tmp 113), type := 4, pos := "law.go:132", after := #[{ on := 3, ground := Go.Ground.data }], guard := none } hHeld ?_
                          try simp only [Act.put, sA, sB, sC]
                          refine wT 5 { dst := some 115, op := Go.Op.move (Go.Operand.tmp 10), type := 25, pos := "law.go:132", after := #[{ on := 4, ground := Go.Ground.guard }], guard := some (4, true) } hHeld ?_
                          try simp only [Act.put, sA, sB, sC]
                          refine wT 6 { dst := some 116, op := Go.Op.move (Go.Operand.tmp 16), type := 3, pos := "law.go:132", after := #[{ on := 4, ground := Go.Ground.guard }], guard := some (4, true) } hHeld ?_
                          try simp only [Act.put, sA, sB, sC]
                          refine wT 7 { dst := some 117, op := Go.Op.indexAddr 25 (Go.Operand.tmp 115) (Go.Operand.tmp 116), type := 0, pos := "law.go:132", after := #[{ on := 5, ground := Go.Ground.data }, { on := 6, ground := Go.Ground.data }, { on := 4, ground := Go.Ground.guard }], guard := some (4, true) } hHeld ?_
                          try simp only [Act.put, sA, sB, sC]
                          refine wT 8 { dst := some 118, op := Go.Op.load 3 (Go.Operand.tmp 117), type := 3, pos := "law.go:132", after := #[{ on := 7, ground := Go.Ground.data }, { on := 4, ground := Go.Ground.guard }], guard := some (4, true) } hHeld ?_
                          try simp only [Act.put, sA, sB, sC]
                          refine wT 9 { dst := some 119, op := Go.Op.move (Go.Operand.tmp 10), type := 25, pos := "law.go:132", after := #[{ on := 4, ground := Go.Ground.guard }], guard := some (4, true) } hHeld ?_
                          try simp only [Act.put, sA, sB, sC]
                          refine wT 10 { dst := some 120, op := Go.Op.move (Go.Operand.tmp 17), type := 3, pos := "law.go:132", after := #[{ on := 4, ground := Go.Ground.guard }], guard := some (4, true) } hHeld ?_
                          try simp only [Act.put, sA, sB, sC]
                          refine wT 11 { dst := some 121, op := Go.Op.indexAddr 25 (Go.Operand.tmp 119) (Go.Operand.tmp 120), type := 0, pos := "law.go:132", after := #[{ on := 9, ground := Go.Ground.data }, { on := 10, ground := Go.Ground.data }, { on := 4, ground := Go.Ground.guard }], guard := some (4, true) } hHeld ?_
                          try simp only [Act.put, sA, sB, sC]
                          refine wT 12 { dst := some 122, op := Go.Op.load 3 (Go.Operand.tmp 121), type := 3, pos := "law.go:132", after := #[{ on := 11, ground := Go.Ground.data }, { on := 4, ground := Go.Ground.guard }], guard := some (4, true) } hHeld ?_
                          try simp only [Act.put, sA, sB, sC]
                          refine wT 13 { dst := some 123, op := Go.Op.binOp Go.BinOp.eql 3 (Go.Operand.tmp 118) (Go.Operand.tmp 122) 3, type := 4, pos := "law.go:132", after := #[{ on := 8, ground := Go.Ground.data }, { on := 12, ground := Go.Ground.data }, { on := 4, ground := Go.Ground.guard }], guard := some (4, true) } (v := .bool false) hHeld ?_ (by intro w0 hSw; (try dsimp only at hSw); go_simp; first | done | simp [q1I])
                          try simp only [Act.put, sA, sB, sC]
                          refine wT 14 { dst := some 124, op := Go.Op.pick (Go.Operand.tmp 114) (Go.Operand.tmp 123) (Go.Operand.const (Go.Value.bool false)), type := 4, pos := "law.go:132", after := #[{ on := 4, ground := Go.Ground.data }, { on := 13, ground := Go.Ground.data }], guard := none } hHeld ?_
                          try simp only [Act.put, sA, sB, sC]
                          refine wT 15 { dst := some 125, op := Go.Op.move (Go.Operand.tmp 124), type := 4, pos := "law.go:132", after := #[{ on := 14, ground := Go.Ground.data }, { on := 4, ground := Go.Ground.chain }], guard := none } hHeld ?_
                          try simp only [Act.put, sA, sB, sC]
                          refine wU 16 { dst := some 126, op := Go.Op.move (Go.Operand.tmp 0), type := 3, pos := "law.go:132", after := #[{ on := 15, ground := Go.Ground.guard }], guard := some (15, true) } hHeld ?_
                          try simp only [Act.put, sA, sB, sC]
                          refine wU 17 { dst := some 127, op := Go.Op.load 29 (Go.Operand.tmp 9), type := 29, pos := "law.go:132", after := #[{ on := 15, ground := Go.Ground.guard }], guard := some (15, true) } hHeld ?_
                          try simp only [Act.put, sA, sB, sC]
                          refine wU 18 { dst := some 128, op := Go.Op.move (Go.Operand.tmp 16), type := 3, pos := "law.go:132", after := #[{ on := 15, ground := Go.Ground.guard }], guard := some (15, true) } hHeld ?_
                          try simp only [Act.put, sA, sB, sC]
                          refine wU 19 { dst := some 129, op := Go.Op.move (Go.Operand.tmp 17), type := 3, pos := "law.go:132", after := #[{ on := 15, ground := Go.Ground.guard }], guard := some (15, true) } hHeld ?_
                          try simp only [Act.put, sA, sB, sC]
                          refine wU 20 { dst := some 130, op := Go.Op.call { callee := Go.Callee.value (Go.Operand.func 16), args := #[Go.Operand.tmp 126, Go.Operand.tmp 127, Go.Operand.tmp 128, Go.Operand.tmp 129], argTypes := #[3, 29, 3, 3] }, type := 4, pos := "law.go:132", after := #[{ on := 16, ground := Go.Ground.data }, { on := 17, ground := Go.Ground.data }, { on := 18, ground := Go.Ground.data }, { on := 19, ground := Go.Ground.data }, { on := 15, ground := Go.Ground.chain }, { on := 15, ground := Go.Ground.guard }], guard := some (15, true) } hHeld ?_
                          try simp only [Act.put, sA, sB, sC]
                          refine wT 21 { dst := some 131, op := Go.Op.pick (Go.Operand.tmp 125) (Go.Operand.tmp 130) (Go.Operand.const (Go.Value.bool false)), type := 4, pos := "law.go:132", after := #[{ on := 15, ground := Go.Ground.data }, { on := 20, ground := Go.Ground.data }], guard := none } hHeld ?_
                          try simp only [Act.put, sA, sB, sC]
                          refine wpAnyH_done (by kernel_rfl) ?_ _
                          clear hHeld
                          go_wp2_with fail
                          go_roundw
                          case rel => exact ⟨b + 1, by go_num, hbn.out, hid (by rw [hn3.out]; exact J.out.kept (Below.refl _ _).drew)⟩
                          case measure => have := hbn.out; simp [intOf]; omega
                    · have e : b = k := by omega
                      subst e
                      clear HA HM
                      go_wp2_with fail
                      go_roundw
                      case rel => exact ⟨a + 1, by go_num, by omega, hid (by rw [hnext2.out]; exact J.out)⟩
                      case measure => simp [intOf]; omega
                · have e : a = k := by omega
                  subst e
                  clear HA HM
                  go_wp2_with fail
                  go_roundw
                  case rel => exact ⟨r + 1, by go_num, by omega, hid (by rw [hnext.out]; exact J.out)⟩
                  case measure => simp [intOf]; omega
            · have e : r = k := by omega
              subst e
              have hfin : Hid ((roundsF (updB r A l) r r s0).length = r) := hid (by rw [roundsB_len]; exact hls.out)
              generalize roundsF (updB r A l) r r s0 = sf at *
              clear HA HM
              go_wp2_with fail
              go_loopw [137] (fun ti wr2 => ∃ k : Nat, ti = .int .i64 (k : Int) ∧ k ≤ r ∧ wr2 = wr) (fun t _ => r - (intOf t).toNat)
              case atStart => exact ⟨0, rfl, by omega, rfl⟩
              case round =>
                obtain ⟨k, rfl, hk, hwr⟩ := hrel
                subst hwr
                by_cases hkr : k < r
                · have hkI : (k : Int) < (r : Int) := by omega
                  have cj := J.out.bj.cell k (cellsB_at (by have := hfin.out; omega))
                  rw [H1.out k hkr] at cj
                  clear H1
                  go_wp2_with fail
                  go_roundw
                  case rel => exact ⟨k + 1, by go_num, by omega, by first | rfl | trivial⟩
                  case measure => simp [intOf]; omega
                · have e : k = r := by omega
                  subst e
                  have BE := B4.out.trans (J.out.bel.mono B4.out.size)
                  clear H1
                  go_wp2_with fail
                  go_ret
                  exact ⟨rfl, BE⟩
end Go.Proofs.YtdpbapoahfggeaaDoor
