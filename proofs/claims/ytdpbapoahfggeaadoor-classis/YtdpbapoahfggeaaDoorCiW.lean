/- The walk of ClassIs. -/
import Derived.Test.YtdpbapoahfggeaaDoorAe
import Derived.Test.YtdpbapoahfggeaaDoorSe
import Derived.Test.YtdpbapoahfggeaaDoorRs
namespace Go.Proofs.YtdpbapoahfggeaaDoor
open Go.ChangeShapes Go.WideShapes Go.ChangeAt Go.RowKit Go.Deep
set_option linter.unusedVariables false
set_option linter.unusedSimpArgs false

theorem of_low {s k : Nat} {l : List Nat} (hk : k < 64) (h1 : s.testBit k = true) (h2 : ∀ j, j < k → s.testBit j = false) : ofL s l = l.getD k 0 := by
  have hm : k ∈ bitsL s := mem_bits.2 ⟨hk, h1⟩
  cases e : bitsL s with
  | nil => rw [e] at hm; cases hm
  | cons m t =>
    obtain ⟨m1, m2, m3⟩ := bits_head e
    have h3 := m3 k hk h1
    have : m = k := by
      by_cases q : m < k
      · rw [h2 m q] at m2; cases m2
      · omega
    rw [ofL_cons l e, this]
theorem of_zero {s : Nat} {l : List Nat} (h2 : ∀ j, j < 64 → s.testBit j = false) : ofL s l = 0 := by
  cases e : bitsL s with
  | nil => exact ofL_nil l e
  | cons m t =>
    obtain ⟨m1, m2, m3⟩ := bits_head e
    rw [h2 m m1] at m2
    cases m2
/-- Split, of no site too. -/
theorem splitN_any (n : Nat) (hn : n ≤ 64) (v0 v1 v2 : Value) (S : List (List Nat)) (l1 : List Nat) (F : List (List Nat)) (w : World) (h0 : RowsR w v0 S) (h1 : NumR w v1 l1) (h2 : RowsR w v2 F)
    (sS : Sm64 S) (s1 : Sm64 [l1]) (sF : Sm64 F) (hTab : Tab w) :
    Calls Tryd.prog 8 #[.int .i64 (n : Int), .agg #[v0, v1, v2]] w fun e w' => ∃ v l, e = .returned v ∧ IntR w' v l ∧ NumS n (S.flatten ++ l1 ++ F.flatten) l ∧ Below w.heap.size w w' := by
  by_cases h : 1 ≤ n
  · exact split_any n hn h v0 v1 v2 S l1 F w h0 h1 h2 sS s1 sF hTab
  · obtain rfl : n = 0 := by omega
    obtain ⟨a0, c0, rfl, -⟩ := h0.open
    obtain ⟨a1, c1, rfl, -⟩ := h1.open
    obtain ⟨a2, c2, rfl, -⟩ := h2.open
    refine Calls.mono (split_none 0 (by decide) a0 a1 a2 _ _ _ c0 c1 c2 w) ?_
    rintro _ w' ⟨rfl, hb⟩
    exact ⟨_, [], rfl, ⟨none, 0, rfl, by simp, fun i u hu => by simp at hu⟩, ⟨rfl, fun i hi => by omega, fun i k hi => by omega, fun i hi => by omega⟩, hb⟩

set_option maxRecDepth 100000 in
set_option maxHeartbeats 1000000 in
theorem is_walk (n : Nat) (hn : n ≤ 12) (v1 : Value) (L : List (List Nat)) (s : Nat) (hs : s < 18446744073709551616) (w : World) (hr : RowsR w v1 L) (hsm : Sm64 L) (hL6 : L.length ≤ 6) (hTab : Tab w) :
    Calls Tryd.prog 3 #[.int .i64 (n : Int), v1, .int .u64 (s : Int)] w fun e w' => e = .returned (.bool true) ∧ Below w.heap.size w w' := by
  have CA := hid (alivec_any w hTab)
  have CS := hid (fun W (k : Below w.heap.size w W) (hL : L.length ≤ 500) => sets_any L v1 W (hr.kept k) hL)
  have hTabX := hid (fun W (k : Below w.heap.size w W) => (hTab.kept k : Tab W))
  have HX := hid hr
  obtain ⟨va, vc, rfl, hLn, hrow0⟩ := hr.open
  have RL : Hid (∀ i, i < L.length → (L.getD i []).length ≤ 9223372036854775807) := hid (fun i hi => by
    obtain ⟨b, off, u, h1, h2, h3, h4⟩ := hrow0 i hi
    obtain ⟨ua, uc, e, h, _⟩ := NumR.open h4
    exact h)
  have HR := hid (fun i (hi : i < L.length) X (h : Below w.heap.size w X) => (show ∃ b off u uc, va = some ⟨b, off, none⟩ ∧ X.cell? ⟨b, off + i, none⟩ = some (.slice u (L.getD i []).length uc) ∧ ∀ k, k < (L.getD i []).length → ∃ b' off', u = some ⟨b', off', none⟩ ∧ X.cell? ⟨b', off' + k, none⟩ = some (.int .u64 (((L.getD i []).getD k 0 : Nat) : Int)) from by
    obtain ⟨b, off, u, h1, h2, h3, h4⟩ := hrow0 i hi
    obtain ⟨ua, uc, e, _, h5⟩ := NumR.open h4
    subst e
    refine ⟨b, off, ua, uc, h1, by rw [h.cell h2]; exact h3, fun k hk => ?_⟩
    obtain ⟨b', off', k1, k2, k3⟩ := h5 k hk
    exact ⟨b', off', k1, by rw [h.cell k2]; exact k3⟩))
  have SM := hid hsm
  clear hr hrow0 hTab hsm
  have sS := setS_small SM.out L.length (Nat.le_refl _)
  have sF := setF_small SM.out L.length (Nat.le_refl _)
  have sG := setG_small SM.out L.length (Nat.le_refl _)
  have CP := hid (fun W (k : Below w.heap.size w W) x0 x1 x2 (q0 : RowsR W x0 (setS L L.length)) (q1 : NumR W x1 (setG0 L L.length)) (q2 : RowsR W x2 (setF L L.length)) => splitN_any n (by omega) x0 x1 x2 _ _ _ W q0 q1 q2 sS sG sF (hTabX.out W k))
  have CR := hid (fun W (k : Below w.heap.size w W) x0 x1 x2 (q0 : RowsR W x0 (setS L L.length)) (q1 : NumR W x1 (setG0 L L.length)) (q2 : RowsR W x2 (setF L L.length)) => rsplit_any n (by omega) x0 x1 x2 _ _ _ W q0 q1 q2 sS sG sF (by have := setS_len L L.length; omega) (by have := setF_len L L.length; omega))
  have CO := hid (fun v l W (k : Below w.heap.size w W) (hv : IntR W v l) => of_any s hs v l W hv (hTabX.out W k))
  have CH := hid (fun (k : Nat) (hk : k < 64) W => (show Calls Tryd.prog 11 #[.int .u64 (s : Int), .int .i64 (k : Int)] W fun e w' => e = .returned (.bool (s.testBit k)) ∧ w' = W from by have := hasS_any s (by rw [p64]; exact hs) (k : Int) W; rw [hasB_nat s k hk] at this; exact this))
  have hn0 : ¬ (n : Int) < 0 := by omega
  have hn12 : ¬ (12 : Int) < (n : Int) := by omega
  have hL6I : ¬ (6 : Int) < (L.length : Int) := by omega
  clear sS sF sG
  go_enter Tryd.func3, Tryd.ntmps3
  go_wp2_with (go_at_call 7; refine Calls.mono CA.out ?_; rintro _ w1 ⟨rfl, hb1⟩; have B1 := hid hb1; clear hb1 CA)
  go_loopw [44] (fun ti wr => ∃ i : Nat, ti = .int .i64 (i : Int) ∧ i ≤ L.length ∧ wr = w1) (fun t _ => L.length - (intOf t).toNat)
  case atStart => exact ⟨0, rfl, by omega, rfl⟩
  case round =>
    obtain ⟨i, rfl, hi, hwr⟩ := hrel
    by_cases hil : i < L.length
    · subst hwr
      clear CS CP CR CO CH HX hTabX
      obtain ⟨b, off, q, qc, rfl, hc, hrow⟩ := HR.out i hil wr B1.out
      have hilI : (i : Int) < (L.length : Int) := by omega
      have hx64 := hid (fun k hk => sm_at SM.out hil (k := k) hk)
      have hln := RL.out i hil
      have hilH := hid hil
      generalize L.getD i [] = li at *
      replace hrow := hid hrow
      clear HR SM RL
      go_wp2_with fail
      clear hc
      go_loopw [50] (fun tk wr2 => ∃ k : Nat, tk = .int .i64 (k : Int) ∧ k ≤ li.length ∧ wr2 = wr) (fun t _ => li.length - (intOf t).toNat)
      case atStart => exact ⟨0, rfl, by omega, rfl⟩
      case round =>
        obtain ⟨k, rfl, hk, hwr2⟩ := hrel
        by_cases hkl : k < li.length
        · subst hwr2
          obtain ⟨b', off', rfl, cx⟩ := hrow.out k hkl
          have hx := hx64.out k hkl
          generalize li.getD k 0 = x at *
          have hkI : (k : Int) < (li.length : Int) := by omega
          clear hrow hx64
          by_cases h8 : 8 < li.length
          · have h8I : (8 : Int) < (li.length : Int) := by omega
            go_wp2_with fail
            all_goals
              go_ret
              exact ⟨rfl, B1.out⟩
          · have h8I : ¬ (8 : Int) < (li.length : Int) := by omega
            have es := shl64 (n := n) (by omega)
            by_cases hg : 2 ^ n ≤ x
            · have hgI : ((2 ^ n : Nat) : Int) ≤ (x : Int) := by omega
              generalize (2 : Nat) ^ n = pn at *
              go_wp2_with fail
              all_goals
                go_ret
                exact ⟨rfl, B1.out⟩
            · have hgI : ¬ ((2 ^ n : Nat) : Int) ≤ (x : Int) := by omega
              generalize (2 : Nat) ^ n = pn at *
              go_wp2_with fail
              go_roundw
              case rel => exact ⟨k + 1, by go_num, by omega, by first | rfl | trivial⟩
              case measure => simp [intOf]; omega
        · have e : k = li.length := by omega
          subst e
          subst hwr2
          clear hrow hx64
          go_wp2_with fail
          go_roundw
          case rel => exact ⟨i + 1, by go_num, by have := hilH.out; omega, by first | rfl | trivial⟩
          case measure => have := hilH.out; simp [intOf]; omega
    · have e : i = L.length := by omega
      subst e
      subst hwr
      clear HR SM RL
      go_wp2_with (first
        | (go_at_call 9; refine Calls.mono (CS.out _ B1.out (by omega)) ?_; rintro _ w2 ⟨xS, xG, xF, rfl, r0, r1, r2, hb2⟩; have B2 := hid (B1.out.trans (hb2.mono B1.out.size)); have C8 := hid (CP.out w2 B2.out _ _ _ r0 r1 r2); clear r0 r1 r2 hb2)
        | (go_at_call 8; refine Calls.mono C8.out ?_; rintro _ w3 ⟨v, l, rfl, hI, hN, hb3⟩; have B3 := hid (B2.out.trans (hb3.mono B2.out.size)); have I3 := hid hI; have N3 := hid hN; clear hI hN hb3 C8)
        | (go_at_call 9; refine Calls.mono (CS.out _ B3.out (by omega)) ?_; rintro _ w4 ⟨yS, yG, yF, rfl, r0, r1, r2, hb4⟩; have B4 := hid (B3.out.trans (hb4.mono B3.out.size)); have I4 := hid (I3.out.kept hb4); have C10 := hid (CR.out w4 B4.out _ _ _ r0 r1 r2); clear r0 r1 r2 hb4 I3)
        | (go_at_call 10; refine Calls.mono C10.out ?_; rintro _ w5 ⟨v', l', rfl, hI', hN', hb5⟩; obtain rfl := hN'.uniq N3.out; have hll := hN'.len; have B5 := hid (B4.out.trans (hb5.mono B4.out.size)); have I5 := hid (I4.out.kept hb5); have I5' := hid hI'; obtain ⟨ra, rc, rfl, -, hra⟩ := IntR.open (hI'); obtain ⟨rb, rd, rfl, -, hrb⟩ := IntR.open (I4.out.kept hb5); replace hra := hid hra; replace hrb := hid hrb; clear hI' hN' hb5 C10 I4))
      clear CS CP CR HX B1 B2 B3 B4 N3
      go_loopw [81] (fun ti wr => ∃ i : Nat, ti = .int .i64 (i : Int) ∧ i ≤ n ∧ Hid (Below w5.heap.size w5 wr)) (fun t _ => n - (intOf t).toNat)
      case atStart => exact ⟨0, rfl, by omega, hid (Below.refl _ _)⟩
      case round =>
        obtain ⟨i, rfl, hi, B6⟩ := hrel
        by_cases hin : i < n
        · obtain ⟨b, off, rfl, g1, g2⟩ := hra.out i (by omega)
          obtain ⟨b', off', rfl, g3, g4⟩ := hrb.out i (by omega)
          rw [← B6.out.cell g1] at g2
          rw [← B6.out.cell g3] at g4
          have hinI : (i : Int) < (n : Int) := by omega
          generalize l'.getD i 0 = y at *
          clear hra hrb CO CH I5 I5' hTabX
          go_wp2_with fail
          go_quiet (fail)
          go_wp2_with fail
          go_roundw
          case rel => exact ⟨i + 1, by go_num, by omega, hid (below_dN B6.out _)⟩
          case measure => simp [intOf]; omega
        · have e : i = n := by omega
          subst e
          go_wp2_with fail
          go_loopw [14] (fun tk wr2 => ∃ k : Nat, tk = .int .i64 (k : Int) ∧ k ≤ 64 ∧ Hid (∀ j, j < k → s.testBit j = false) ∧ wr2 = wr) (fun t _ => 64 - (intOf t).toNat)
          case atStart => exact ⟨0, rfl, by omega, hid (fun j hj => by omega), rfl⟩
          case round =>
            obtain ⟨k, rfl, hk, hno, hwr⟩ := hrel
            subst hwr
            have CF := fun X (k : Below w5.heap.size w5 X) => (show Calls Tryd.prog 12 #[.int .u64 (s : Int), .slice rb i rd] X fun e w' => e = .returned (.int .i64 ((ofL s l' : Nat) : Int)) ∧ Below X.heap.size X w' from by
              have := CO.out _ _ X (B5.out.trans (k.mono B5.out.size)) (I5.out.kept k)
              rw [hll] at this
              exact this)
            by_cases hk64 : k < 64
            · have hkI : (k : Int) < 64 := by omega
              have C := CH.out k hk64
              cases qb : s.testBit k
              · have hno2 : Hid (∀ j, j < k + 1 → s.testBit j = false) := hid (fun j hj => by
                  by_cases e : j = k
                  · rw [e]; exact qb
                  · exact hno.out j (by omega))
                rw [qb] at C
                replace C := hid C
                clear hno CF CO CH I5 I5' hra hrb hTabX
                go_wp2_with (go_at_call 11; refine Calls.mono (C.out _) ?_; rintro _ w' ⟨rfl, rfl⟩)
                go_roundw
                case rel => exact ⟨k + 1, by go_num, by omega, hno2, by first | rfl | trivial⟩
                case measure => simp [intOf]; omega
              · have eo := of_low (l := l') hk64 qb hno.out
                rw [qb] at C
                rw [eo] at CF
                replace C := hid C
                by_cases hkn : k < i
                · obtain ⟨b, off, rfl, g1, g2⟩ := hra.out k (by omega)
                  have hknI : (k : Int) < (i : Int) := by omega
                  have CE := hid (fun X (h : Below wr.heap.size wr X) => (show X.cell? ⟨b, off + k, none⟩ = some (.int .i64 ((l'.getD k 0 : Nat) : Int)) from by rw [(B6.out.trans (h.mono B6.out.size)).cell g1]; exact g2))
                  generalize l'.getD k 0 = y at *
                  replace CF := hid CF
                  clear hno CO CH I5 I5' hra hrb hTabX g2
                  go_wp2_with (go_at_call 11; refine Calls.mono (C.out _) ?_; rintro _ w' ⟨rfl, rfl⟩)
                  refine wp_region_held_drew (S := fun (w' : World) => w'.cell? ⟨b, off + k, none⟩ = some (.int .i64 (y : Int))) (by kernel_rfl) (CE.out _ (Below.refl _ _).drew) (fun hHeld => ?_)
                  refine wT 0 { dst := some 112, op := Go.Op.move (Go.Operand.tmp 2), type := 23, pos := "law.go:65", after := #[], guard := none } hHeld ?_
                  try simp only [Act.put, sA, sB, sC]
                  refine wT 1 { dst := some 113, op := Go.Op.move (Go.Operand.tmp 11), type := 25, pos := "law.go:65", after := #[], guard := none } hHeld ?_
                  try simp only [Act.put, sA, sB, sC]
                  refine wT 3 { dst := some 115, op := Go.Op.move (Go.Operand.tmp 12), type := 25, pos := "law.go:65", after := #[], guard := none } hHeld ?_
                  try simp only [Act.put, sA, sB, sC]
                  refine wT 4 { dst := some 116, op := Go.Op.move (Go.Operand.tmp 14), type := 3, pos := "law.go:65", after := #[], guard := none } hHeld ?_
                  try simp only [Act.put, sA, sB, sC]
                  refine wT 5 { dst := some 117, op := Go.Op.indexAddr 25 (Go.Operand.tmp 115) (Go.Operand.tmp 116), type := 0, pos := "law.go:65", after := #[{ on := 3, ground := Go.Ground.data }, { on := 4, ground := Go.Ground.data }], guard := none } hHeld ?_
                  try simp only [Act.put, sA, sB, sC]
                  refine wT 6 { dst := some 118, op := Go.Op.load 3 (Go.Operand.tmp 117), type := 3, pos := "law.go:65", after := #[{ on := 5, ground := Go.Ground.data }], guard := none } hHeld ?_
                  try simp only [Act.put, sA, sB, sC]
                  refine wO 2 { dst := some 114, op := Go.Op.call { callee := Go.Callee.value (Go.Operand.func 12), args := #[Go.Operand.tmp 112, Go.Operand.tmp 113], argTypes := #[23, 25] }, type := 3, pos := "law.go:65", after := #[{ on := 0, ground := Go.Ground.data }, { on := 1, ground := Go.Ground.data }], guard := none } (fun K' hK' => ?_)
                  go_simp
                  go_at_call 12
                  refine Calls.mono (CF.out _ B6.out.drew) ?_
                  rintro _ w7 ⟨rfl, hb7⟩
                  have hz := hid (CE.out w7 ((Below.refl _ _).drew.trans hb7))
                  have B7 := hid (B5.out.trans ((B6.out.drew.trans (hb7.mono B6.out.size)).mono B5.out.size))
                  clear hb7
                  refine hK'.out _ _ hz.out (fun hHeld => ?_)
                  clear hK' K'
                  try simp only [Act.put, sA, sB, sC]
                  refine wT 7 { dst := some 119, op := Go.Op.binOp Go.BinOp.eql 3 (Go.Operand.tmp 114) (Go.Operand.tmp 118) 3, type := 4, pos := "law.go:65", after := #[{ on := 2, ground := Go.Ground.data }, { on := 6, ground := Go.Ground.data }], guard := none } hHeld ?_
                  try simp only [Act.put, sA, sB, sC]
                  refine wT 8 { dst := some 6, op := Go.Op.assign (Go.Operand.tmp 119), type := 4, pos := "law.go:65", after := #[{ on := 7, ground := Go.Ground.data }, { on := 2, ground := Go.Ground.chain }, { on := 0, ground := Go.Ground.phase }, { on := 1, ground := Go.Ground.phase }, { on := 2, ground := Go.Ground.phase }, { on := 3, ground := Go.Ground.phase }, { on := 4, ground := Go.Ground.phase }, { on := 5, ground := Go.Ground.phase }, { on := 6, ground := Go.Ground.phase }, { on := 7, ground := Go.Ground.phase }], guard := none } hHeld ?_
                  try simp only [Act.put, sA, sB, sC]
                  refine wpAnyH_done (by kernel_rfl) ?_ _
                  clear hHeld
                  go_wp2_with fail
                  go_ret
                  exact ⟨by simp, B7.out⟩
                · have hknI : ¬ (k : Int) < (i : Int) := by omega
                  have ez : l'.getD k 0 = 0 := by simp [List.getD, List.getElem?_eq_none (show l'.length ≤ k by omega)]
                  rw [ez] at CF
                  replace CF := hid CF
                  clear hno CO CH I5 I5' hra hrb hTabX
                  go_wp2_with (first | (go_at_call 11; refine Calls.mono (C.out _) ?_; rintro _ w' ⟨rfl, rfl⟩) | (go_at_call 12; refine Calls.mono (CF.out _ B6.out) ?_; rintro _ w7 ⟨rfl, hb7⟩; have B7 := hid (B5.out.trans ((B6.out.trans (hb7.mono B6.out.size)).mono B5.out.size)); clear hb7))
                  go_ret
                  exact ⟨rfl, B7.out⟩
            · have e : k = 64 := by omega
              subst e
              have eo := of_zero (l := l') hno.out
              rw [eo] at CF
              replace CF := hid CF
              have hknI : ¬ (64 : Int) < (i : Int) := by omega
              clear hno CO CH I5 I5' hra hrb hTabX
              go_wp2_with (go_at_call 12; refine Calls.mono (CF.out _ B6.out) ?_; rintro _ w7 ⟨rfl, hb7⟩; have B7 := hid (B5.out.trans ((B6.out.trans (hb7.mono B6.out.size)).mono B5.out.size)); clear hb7)
              go_ret
              exact ⟨rfl, B7.out⟩
end Go.Proofs.YtdpbapoahfggeaaDoor
