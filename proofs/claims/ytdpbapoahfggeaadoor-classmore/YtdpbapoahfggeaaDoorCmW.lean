/- The walk of ClassMore. -/
import Derived.Test.YtdpbapoahfggeaaDoorAe
import Derived.Test.YtdpbapoahfggeaaDoorSe
import Derived.Test.YtdpbapoahfggeaaDoorRs
namespace Go.Proofs.YtdpbapoahfggeaaDoor
open Go.ChangeShapes Go.WideShapes Go.ChangeAt Go.RowKit Go.Deep
set_option linter.unusedVariables false
set_option linter.unusedSimpArgs false

theorem flat_more {L : List (List Nat)} {x y : Nat} : y ∈ flatS (L ++ [[x]]) (L ++ [[x]]).length ↔ y ∈ flatS L L.length ∨ y = x := by
  rw [mem_flatS, mem_flatS]
  constructor
  · rintro ⟨j, hj, h⟩
    rw [List.length_append] at hj
    simp only [List.getD, List.getElem?_append] at h
    by_cases e : j < L.length
    · rw [if_pos e] at h
      exact .inl ⟨j, e, h⟩
    · have : j = L.length := by simp at hj; omega
      subst this
      rw [if_neg e] at h
      simp at h
      exact .inr h
  · rintro (⟨j, hj, h⟩ | rfl)
    · refine ⟨j, by rw [List.length_append]; omega, ?_⟩
      simp only [List.getD, List.getElem?_append, if_pos hj]
      exact h
    · refine ⟨L.length, by simp, ?_⟩
      simp [List.getD]
theorem more_same {L : List (List Nat)} {n x : Nat} {l l2 : List Nat} (h : NumS n (flatS L L.length) l) (h2 : NumS n (flatS (L ++ [[x]]) (L ++ [[x]]).length) l2) {i k : Nat} (hi : i < n) (hk : k < n)
    (hq : l.getD i 0 = l.getD k 0 ∨ x.testBit i = true ∧ x.testBit k = true) : l2.getD i 0 = l2.getD k 0 := by
  rw [h2.same i k hi hk]
  rcases hq with q | ⟨q1, q2⟩
  · exact ((h.same i k hi hk).1 q).mono (fun y hy => flat_more.2 (.inl hy))
  · exact Jo.one (meet_iff.2 ⟨hi, hk, x, flat_more.2 (.inr rfl), q1, q2⟩)
theorem own_none (w : World) : (w.alloc (.cells #[] 27)).ownsRow w.heap.size 27 1 (.slice (some ⟨w.heap.size, 0, none⟩) 0 0) 0 [] :=
  ⟨rfl, .inr ⟨w.heap.size, 0, #[], rfl, Nat.le_refl _, heap_alloc_new _ _, Nat.le_refl _, by simp [maxLen], rfl, rfl⟩⟩

theorem more_own {w5 : World} {B n : Nat} {v5 : Value} {us : List Value} (o5 : w5.ownsRow B 27 1 v5 n us) (s : Nat) :
    ((w5.alloc (.cells #[.int .u64 (s : Int)] 23)).alloc (.cells #[.slice (some ⟨w5.heap.size, 0, none⟩) 1 1] 27)).ownsRow B 27 1 v5 n us :=
  own_keep o5 (fun g hg hl => (below2 w5 _ _).block g hl)
theorem more_vals (w5 : World) (s : Nat) : ValsR ((w5.alloc (.cells #[.int .u64 (s : Int)] 23)).alloc (.cells #[.slice (some ⟨w5.heap.size, 0, none⟩) 1 1] 27)) (.slice (some ⟨w5.heap.size + 1, 0, none⟩) 1 1) [.slice (some ⟨w5.heap.size, 0, none⟩) 1 1] := by
  have := vals_new (w5.alloc (.cells #[.int .u64 (s : Int)] 23)) (.slice (some ⟨w5.heap.size, 0, none⟩) 1 1) 27
  rw [World.size_alloc] at this
  exact this
theorem more_rows {w w3 w5 w7 : World} {L : List (List Nat)} {us : List Value} {v5 v7 : Value} {s : Nat} (B3 : Below w.heap.size w w3) (m0 : us.length = L.length) (hL : L.length ≤ 100)
    (N0 : ∀ (i : Nat) (u : Value) (l : List Nat), us[i]? = some u → L[i]? = some l → NumR w u l)
    (o5 : w5.ownsRow w3.heap.size 27 1 v5 us.length us) (g5 : (w3.alloc (.cells #[] 27)).grownBy w5 (some w3.heap.size))
    (o7 : w7.ownsRow w3.heap.size 27 1 v7 (us.length + [Value.slice (some ⟨w5.heap.size, 0, none⟩) 1 1].length) (us ++ [.slice (some ⟨w5.heap.size, 0, none⟩) 1 1]))
    (g7 : ((w5.alloc (.cells #[.int .u64 (s : Int)] 23)).alloc (.cells #[.slice (some ⟨w5.heap.size, 0, none⟩) 1 1] 27)).grownBy w7 v5.ownBlock) :
    Below w3.heap.size w3 w7 ∧ RowsR w7 v7 (L ++ [[s]]) := by
  have t5 := grown_touch (v := .slice (some ⟨w3.heap.size, 0, none⟩) 0 0) g5 (own_none w3)
  have k5 : Below w3.heap.size w3 w5 := below_touch ((Below.refl w3.heap.size w3).alloc (Nat.le_refl _) _) t5 (fun i hi q => by
    have e : w3.heap.size = i := by simpa [Value.ownBlock] using q
    omega)
  have k6 := k5.trans ((below2 w5 (.cells #[.int .u64 (s : Int)] 23) (.cells #[.slice (some ⟨w5.heap.size, 0, none⟩) 1 1] 27)).mono k5.size)
  have O7 := more_own o5 s
  have t7 := grown_touch g7 O7
  have k7 := below_touch k6 t7 (fun i hi q => by have := (own_lt o5 q).1; omega)
  refine ⟨k7, ⟨us ++ [.slice (some ⟨w5.heap.size, 0, none⟩) 1 1], ?_, by simp [m0], ?_⟩⟩
  · refine own_vals (us := us ++ [.slice (some ⟨w5.heap.size, 0, none⟩) 1 1]) (by simpa using o7) (by simp) (by simp; omega)
  · have kw := B3.trans (k7.mono B3.size)
    refine nums_app m0 (fun i u l h1 h2 => (N0 i u l h1 h2).kept kw) (nums_one ?_)
    have va := (VarAt.new w5 [.int .u64 (s : Int)] 23).past (.cells #[.slice (some ⟨w5.heap.size, 0, none⟩) 1 1] 27)
    have vb := va.touch t7 (fun q => by have := (own_lt o5 q).2; omega)
    exact ⟨_, 1, rfl, by simp, fun i u hu => ⟨_, 0, rfl, vb.lt, by rw [Nat.zero_add]; exact vb.cell i hu⟩⟩

set_option maxRecDepth 100000 in
set_option maxHeartbeats 20000000 in
theorem more_walk (n : Nat) (hn : n ≤ 12) (hn1 : 1 ≤ n) (v1 : Value) (L : List (List Nat)) (s : Nat) (hs : s < 2 ^ n) (w : World) (hr : RowsR w v1 L) (hsm : Sm64 L) (hL6 : L.length ≤ 5) (hTab : Tab w) :
    Calls Tryd.prog 6 #[.int .i64 (n : Int), v1, .int .u64 (s : Int)] w fun e w' => e = .returned (.bool true) ∧ Below w.heap.size w w' := by
  have hs64 : s < 18446744073709551616 := by
    have : 2 ^ n ≤ 2 ^ 12 := Nat.pow_le_pow_right (by decide) hn
    omega
  obtain ⟨us, U0, m0, N0, one0⟩ := hr.vals
  have CA := hid (alivec_any w hTab)
  have CS := hid (fun W (k : Below w.heap.size w W) (hL : L.length ≤ 500) => sets_any L v1 W (hr.kept k) hL)
  have hTabX := hid (fun W (k : Below w.heap.size w W) => (hTab.kept k : Tab W))
  have HX := hid hr
  obtain ⟨va, vc, rfl, hLn, hrow0⟩ := hr.open
  have RL : Hid (∀ i, i < L.length → (L.getD i []).length ≤ 9223372036854775807) := hid (fun i hi => by
    obtain ⟨b, off, u, h1, h2, h3, h4⟩ := hrow0 i hi
    obtain ⟨ua, uc, e, h, _⟩ := NumR.open h4
    exact h)
  have HR := hid (fun i (hi : i < L.length) X (h : Below w.heap.size w X) => (show ∃ b off u uc, va = some ⟨b, off, none⟩ ∧ X.cell? ⟨b, off + i, none⟩ = some (.slice u (L.getD i []).length uc) ∧ ∀ k, k < (L.getD i []).length → ∃ b' off', u = some ⟨b', off', none⟩ ∧ X.cell? ⟨b', off' + k, none⟩ = some (.int .u64 (((L.getD i []).getD k 0 : Nat) : Int)) from by
    obtain ⟨b, off, u, h1, h2, h3, h4⟩ := hrow0 i hi
    obtain ⟨ua, uc, e, _, h5⟩ := NumR.open h4
    subst e
    refine ⟨b, off, ua, uc, h1, by rw [h.cell h2]; exact h3, fun k hk => ?_⟩
    obtain ⟨b', off', k1, k2, k3⟩ := h5 k hk
    exact ⟨b', off', k1, by rw [h.cell k2]; exact k3⟩))
  have SM := hid hsm
  have SM0 := SM
  clear hr hrow0 hTab hsm
  have sm2 : Sm64 (L ++ [[s]]) := fun l hl x hx => by
    rcases List.mem_append.1 hl with q | q
    · exact SM.out l q x hx
    · simp at q; subst q; simp at hx; subst hx; exact hs64
  have CP := hid (fun (M : List (List Nat)) (hM : Sm64 M) W (k : Below w.heap.size w W) x0 x1 x2 (q0 : RowsR W x0 (setS M M.length)) (q1 : NumR W x1 (setG0 M M.length)) (q2 : RowsR W x2 (setF M M.length)) => split_any n (by omega) hn1 x0 x1 x2 _ _ _ W q0 q1 q2 (setS_small hM M.length (Nat.le_refl _)) (setG_small hM M.length (Nat.le_refl _)) (setF_small hM M.length (Nat.le_refl _)) (hTabX.out W k))
  have CH := hid (fun (k : Nat) (hk : k < 64) W => (show Calls Tryd.prog 11 #[.int .u64 (s : Int), .int .i64 (k : Int)] W fun e w' => e = .returned (.bool (s.testBit k)) ∧ w' = W from by have := hasS_any s (by rw [p64]; exact hs64) (k : Int) W; rw [hasB_nat s k hk] at this; exact this))
  have hn0 : ¬ (n : Int) < 1 := by omega
  have hn12 : ¬ (12 : Int) < (n : Int) := by omega
  have hL6I : ¬ (5 : Int) < (L.length : Int) := by omega
  have hsI : ¬ ((2 ^ n : Nat) : Int) ≤ (s : Int) := by omega
  have es0 := shl64 (n := n) (by omega)
  generalize hpn : (2 : Nat) ^ n = pn at es0 hsI
  clear hpn hs
  replace U0 := hid U0
  replace N0 := hid N0
  replace sm2 := hid sm2
  replace one0 := hid one0
  go_enter Tryd.func6, Tryd.ntmps6
  go_wp2_with (go_at_call 7; refine Calls.mono CA.out ?_; rintro _ w1 ⟨rfl, hb1⟩; have B1 := hid hb1; clear hb1 CA)
  go_loopw [37] (fun ti wr => ∃ i : Nat, ti = .int .i64 (i : Int) ∧ i ≤ L.length ∧ wr = w1) (fun t _ => L.length - (intOf t).toNat)
  case atStart => exact ⟨0, rfl, by omega, rfl⟩
  case round =>
    obtain ⟨i, rfl, hi, hwr⟩ := hrel
    by_cases hil : i < L.length
    · subst hwr
      clear CS CP CH HX hTabX U0 N0 one0 sm2 es0 hsI
      obtain ⟨b, off, q, qc, rfl, hc, hrow⟩ := HR.out i hil wr B1.out
      have hilI : (i : Int) < (L.length : Int) := by omega
      have hx64 := hid (fun k hk => sm_at SM.out hil (k := k) hk)
      have hln := RL.out i hil
      have hilH := hid hil
      generalize L.getD i [] = li at *
      replace hrow := hid hrow
      clear HR SM RL
      go_wp2_with fail
      clear hc
      go_loopw [43] (fun tk wr2 => ∃ k : Nat, tk = .int .i64 (k : Int) ∧ k ≤ li.length ∧ wr2 = wr) (fun t _ => li.length - (intOf t).toNat)
      case atStart => exact ⟨0, rfl, by omega, rfl⟩
      case round =>
        obtain ⟨k, rfl, hk, hwr2⟩ := hrel
        by_cases hkl : k < li.length
        · subst hwr2
          obtain ⟨b', off', rfl, cx⟩ := hrow.out k hkl
          have hx := hx64.out k hkl
          generalize li.getD k 0 = x at *
          have hkI : (k : Int) < (li.length : Int) := by omega
          clear hrow hx64
          by_cases h8 : 8 < li.length
          · have h8I : (8 : Int) < (li.length : Int) := by omega
            go_wp2_with fail
            all_goals
              go_ret
              exact ⟨rfl, B1.out⟩
          · have h8I : ¬ (8 : Int) < (li.length : Int) := by omega
            have es := shl64 (n := n) (by omega)
            by_cases hg : 2 ^ n ≤ x
            · have hgI : ((2 ^ n : Nat) : Int) ≤ (x : Int) := by omega
              generalize (2 : Nat) ^ n = pn at *
              go_wp2_with fail
              all_goals
                go_ret
                exact ⟨rfl, B1.out⟩
            · have hgI : ¬ ((2 ^ n : Nat) : Int) ≤ (x : Int) := by omega
              generalize (2 : Nat) ^ n = pn at *
              go_wp2_with fail
              go_roundw
              case rel => exact ⟨k + 1, by go_num, by omega, by first | rfl | trivial⟩
              case measure => simp [intOf]; omega
        · have e : k = li.length := by omega
          subst e
          subst hwr2
          clear hrow hx64
          go_wp2_with fail
          go_roundw
          case rel => exact ⟨i + 1, by go_num, by have := hilH.out; omega, by first | rfl | trivial⟩
          case measure => have := hilH.out; simp [intOf]; omega
    · have e : i = L.length := by omega
      subst e
      subst hwr
      clear HR SM RL
      have hus : us.length ≤ 5 := by omega
      have hm0 := hid m0
      clear m0
      go_wp2_with (first
        | (go_at_call 8; refine Calls.mono C10.out ?_; rintro _ wa ⟨v', l2, rfl, hI, hN, hba⟩; have Ba := hid (B9.out.trans (hba.mono B9.out.size)); have hl2 := hN.len; have Ia := hid (I3.out.kept (K9.out.trans (hba.mono K9.out.size))); obtain ⟨rb, rd, rfl, -, -⟩ := IntR.open hI; have Ib := hid hI; have N4 := hid hN; clear hI hN hba C10)
        | (go_at_call 9; refine Calls.mono C9.out ?_; rintro _ w9 ⟨yS, yG, yF, rfl, r0, r1, r2, hb9⟩; have B9 := hid (B7.out.trans (hb9.mono B7.out.size)); have K9 := hid (K7.out.trans (hb9.mono K7.out.size)); have C10 := hid (CP.out (L ++ [[s]]) sm2.out w9 B9.out _ _ _ r0 r1 r2); clear r0 r1 r2 hb9 C9)
        | (at_builtin; refine wl_appendV rfl _ _ rfl w3.heap.size (.slice p5 us.length c5) rfl us.length us (more_own o5.out s) _ rfl [.slice (some ⟨w5.heap.size, 0, none⟩) 1 1] (more_vals w5 s) (by simp [Value.oneCell']) (by simp; omega) sz5.out ?_; intro v7 w7 o7 g7 h7; have K7 := hid (more_rows B3.out hm0.out (by omega) N0.out o5.out g5.out o7 g7).1; have R7 := hid (more_rows B3.out hm0.out (by omega) N0.out o5.out g5.out o7 g7).2; have B7 := hid (B3.out.trans (K7.out.mono B3.out.size)); have C9 := hid (sets_any (L ++ [[s]]) v7 w7 R7.out (by simp; omega)); clear h7)
        | (at_builtin; refine wl_appendV rfl _ _ rfl w3.heap.size (.slice (some ⟨w3.heap.size, 0, none⟩) 0 0) rfl 0 [] (own_none w3) _ rfl us U3.out one0.out (by omega) (by rw [World.size_alloc]; omega) ?_; intro v5 w5 o5 g5 h5; rw [Nat.zero_add, List.nil_append] at o5; obtain ⟨p5, c5, rfl⟩ := own_slice o5; have sz5 := hid (show w3.heap.size ≤ ((w5.alloc (.cells #[.int .u64 (s : Int)] 23)).alloc (.cells #[.slice (some ⟨w5.heap.size, 0, none⟩) 1 1] 27)).heap.size from by have := g5.size; simp at this ⊢; omega); replace o5 := hid o5; replace g5 := hid g5; clear h5 U3)
        | (go_at_call 8; refine Calls.mono C8.out ?_; rintro _ w3 ⟨v, l, rfl, hI, hN, hb3⟩; have B3 := hid (B2.out.trans (hb3.mono B2.out.size)); have hll := hN.len; obtain ⟨ra, rc, rfl, -, -⟩ := IntR.open hI; have I3 := hid hI; have N3 := hid hN; have U3 := hid (U0.out.kept (B3.out.alloc B3.out.size (.cells #[] 27))); clear hI hN hb3 C8)
        | (go_at_call 9; refine Calls.mono (CS.out _ B1.out (by omega)) ?_; rintro _ w2 ⟨xS, xG, xF, rfl, r0, r1, r2, hb2⟩; have B2 := hid (B1.out.trans (hb2.mono B1.out.size)); have C8 := hid (CP.out L SM0.out w2 B2.out _ _ _ r0 r1 r2); clear r0 r1 r2 hb2))
      have HA := hid (fun i (hi : i < n) X (h : Below wa.heap.size wa X) => (show ∃ b off, ra = some ⟨b, off, none⟩ ∧ X.cell? ⟨b, off + i, none⟩ = some (.int .i64 ((l.getD i 0 : Nat) : Int)) from by
        obtain ⟨a1, c1, e1, _, h1⟩ := IntR.open Ia.out
        obtain ⟨rfl, -, -⟩ := Value.slice.inj e1
        obtain ⟨b, off, k1, k2, k3⟩ := h1 i (by omega)
        exact ⟨b, off, k1, by rw [h.cell k2]; exact k3⟩))
      have HB := hid (fun i (hi : i < n) X (h : Below wa.heap.size wa X) => (show ∃ b off, rb = some ⟨b, off, none⟩ ∧ X.cell? ⟨b, off + i, none⟩ = some (.int .i64 ((l2.getD i 0 : Nat) : Int)) from by
        obtain ⟨a1, c1, e1, _, h1⟩ := IntR.open Ib.out
        obtain ⟨rfl, -, -⟩ := Value.slice.inj e1
        obtain ⟨b, off, k1, k2, k3⟩ := h1 i (by omega)
        exact ⟨b, off, k1, by rw [h.cell k2]; exact k3⟩))
      have HS := hid (fun i k (hi : i < n) (hk : k < n) hq => more_same (i := i) (k := k) N3.out N4.out hi hk hq)
      clear CS CP HX B1 B2 B3 B7 B9 K7 K9 N3 N4 Ia Ib I3 U0 N0 sm2 one0 SM0 hTabX R7 hm0 o5 g5
      go_loopw [85] (fun ti wr => ∃ i : Nat, ti = .int .i64 (i : Int) ∧ i ≤ n ∧ Hid (Below wa.heap.size wa wr)) (fun t _ => n - (intOf t).toNat)
      case atStart => exact ⟨0, rfl, by omega, hid (Below.refl _ _)⟩
      case round =>
        obtain ⟨i, rfl, hi, D⟩ := hrel
        by_cases hin : i < n
        · have hinI : (i : Int) < (n : Int) := by omega
          go_wp2_with fail
          go_loopw [90] (fun tk wr => ∃ k : Nat, tk = .int .i64 (k : Int) ∧ k ≤ n ∧ Hid (Below wa.heap.size wa wr)) (fun t _ => n - (intOf t).toNat)
          case atStart => exact ⟨0, rfl, by omega, D⟩
          case round =>
            clear D
            obtain ⟨k, rfl, hk, D⟩ := hrel
            by_cases hkn : k < n
            · have hknI : (k : Int) < (n : Int) := by omega
              obtain ⟨b1, o1, rfl, c1⟩ := HA.out i hin _ D.out
              obtain ⟨b2, o2, e2, c2⟩ := HA.out k hkn _ D.out
              cases e2
              obtain ⟨b3, o3, rfl, c3⟩ := HB.out i hin _ D.out
              obtain ⟨b4, o4, e4, c4⟩ := HB.out k hkn _ D.out
              cases e4
              have hs2 := HS.out i k hin hkn
              have CI := hid (CH.out i (by omega))
              have CK := hid (CH.out k (by omega))
              generalize l.getD i 0 = yi at *
              generalize l.getD k 0 = yk at *
              generalize l2.getD i 0 = zi at *
              generalize l2.getD k 0 = zk at *
              generalize s.testBit i = bi at *
              generalize s.testBit k = bk at *
              have hnext : Hid (k + 1 ≤ n) := hid (by omega)
              clear HA HB HS CH es0 hsI
              by_cases q : zi = zk
              · subst q
                clear hs2
                by_cases q1 : yi = yk
                · subst q1
                  cases bi <;> cases bk
                  case false.false =>
                    go_wp2_with fail
                    refine wp_region_held_drew (S := fun (w' : World) => w'.cell? ⟨b1, o1 + i, none⟩ = some (.int .i64 (yi : Int)) ∧ w'.cell? ⟨b1, o1 + k, none⟩ = some (.int .i64 (yi : Int)) ∧ w'.cell? ⟨b3, o3 + i, none⟩ = some (.int .i64 (zi : Int)) ∧ w'.cell? ⟨b3, o3 + k, none⟩ = some (.int .i64 (zi : Int))) (by kernel_rfl) (⟨c1, c2, c3, c4⟩) (fun hHeld => ?_)
                    refine wT 0 { dst := some 93, op := Go.Op.move (Go.Operand.tmp 11), type := 25, pos := "law.go:168", after := #[], guard := none } hHeld ?_
                    try simp only [Act.put, sA, sB, sC]
                    refine wT 1 { dst := some 94, op := Go.Op.move (Go.Operand.tmp 13), type := 3, pos := "law.go:168", after := #[], guard := none } hHeld ?_
                    try simp only [Act.put, sA, sB, sC]
                    refine wT 2 { dst := some 95, op := Go.Op.indexAddr 25 (Go.Operand.tmp 93) (Go.Operand.tmp 94), type := 0, pos := "law.go:168", after := #[{ on := 0, ground := Go.Ground.data }, { on := 1, ground := Go.Ground.data }], guard := none } hHeld ?_
                    try simp only [Act.put, sA, sB, sC]
                    refine wT 3 { dst := some 96, op := Go.Op.load 3 (Go.Operand.tmp 95), type := 3, pos := "law.go:168", after := #[{ on := 2, ground := Go.Ground.data }], guard := none } hHeld ?_
                    try simp only [Act.put, sA, sB, sC]
                    refine wT 4 { dst := some 97, op := Go.Op.move (Go.Operand.tmp 11), type := 25, pos := "law.go:168", after := #[], guard := none } hHeld ?_
                    try simp only [Act.put, sA, sB, sC]
                    refine wT 5 { dst := some 98, op := Go.Op.move (Go.Operand.tmp 14), type := 3, pos := "law.go:168", after := #[], guard := none } hHeld ?_
                    try simp only [Act.put, sA, sB, sC]
                    refine wT 6 { dst := some 99, op := Go.Op.indexAddr 25 (Go.Operand.tmp 97) (Go.Operand.tmp 98), type := 0, pos := "law.go:168", after := #[{ on := 4, ground := Go.Ground.data }, { on := 5, ground := Go.Ground.data }], guard := none } hHeld ?_
                    try simp only [Act.put, sA, sB, sC]
                    refine wT 7 { dst := some 100, op := Go.Op.load 3 (Go.Operand.tmp 99), type := 3, pos := "law.go:168", after := #[{ on := 6, ground := Go.Ground.data }], guard := none } hHeld ?_
                    try simp only [Act.put, sA, sB, sC]
                    refine wT 8 { dst := some 101, op := Go.Op.binOp Go.BinOp.eql 3 (Go.Operand.tmp 96) (Go.Operand.tmp 100) 3, type := 4, pos := "law.go:168", after := #[{ on := 3, ground := Go.Ground.data }, { on := 7, ground := Go.Ground.data }], guard := none } (v := .bool true) hHeld ?_ (by intro w0 hSw; (try dsimp only at hSw); go_simp; first | done | simp)
                    try simp only [Act.put, sA, sB, sC]
                    refine wT 9 { dst := some 102, op := Go.Op.move (Go.Operand.tmp 101), type := 4, pos := "law.go:168", after := #[{ on := 8, ground := Go.Ground.data }], guard := none } hHeld ?_
                    try simp only [Act.put, sA, sB, sC]
                    refine wT 10 { dst := some 103, op := Go.Op.move (Go.Operand.tmp 12), type := 25, pos := "law.go:168", after := #[{ on := 9, ground := Go.Ground.guard }], guard := some (9, true) } hHeld ?_
                    try simp only [Act.put, sA, sB, sC]
                    refine wT 11 { dst := some 104, op := Go.Op.move (Go.Operand.tmp 13), type := 3, pos := "law.go:168", after := #[{ on := 9, ground := Go.Ground.guard }], guard := some (9, true) } hHeld ?_
                    try simp only [Act.put, sA, sB, sC]
                    refine wT 12 { dst := some 105, op := Go.Op.indexAddr 25 (Go.Operand.tmp 103) (Go.Operand.tmp 104), type := 0, pos := "law.go:168", after := #[{ on := 10, ground := Go.Ground.data }, { on := 11, ground := Go.Ground.data }, { on := 9, ground := Go.Ground.guard }], guard := some (9, true) } hHeld ?_
                    try simp only [Act.put, sA, sB, sC]
                    refine wT 13 { dst := some 106, op := Go.Op.load 3 (Go.Operand.tmp 105), type := 3, pos := "law.go:168", after := #[{ on := 12, ground := Go.Ground.data }, { on := 9, ground := Go.Ground.guard }], guard := some (9, true) } hHeld ?_
                    try simp only [Act.put, sA, sB, sC]
                    refine wT 14 { dst := some 107, op := Go.Op.move (Go.Operand.tmp 12), type := 25, pos := "law.go:168", after := #[{ on := 9, ground := Go.Ground.guard }], guard := some (9, true) } hHeld ?_
                    try simp only [Act.put, sA, sB, sC]
                    refine wT 15 { dst := some 108, op := Go.Op.move (Go.Operand.tmp 14), type := 3, pos := "law.go:168", after := #[{ on := 9, ground := Go.Ground.guard }], guard := some (9, true) } hHeld ?_
                    try simp only [Act.put, sA, sB, sC]
                    refine wT 16 { dst := some 109, op := Go.Op.indexAddr 25 (Go.Operand.tmp 107) (Go.Operand.tmp 108), type := 0, pos := "law.go:168", after := #[{ on := 14, ground := Go.Ground.data }, { on := 15, ground := Go.Ground.data }, { on := 9, ground := Go.Ground.guard }], guard := some (9, true) } hHeld ?_
                    try simp only [Act.put, sA, sB, sC]
                    refine wT 17 { dst := some 110, op := Go.Op.load 3 (Go.Operand.tmp 109), type := 3, pos := "law.go:168", after := #[{ on := 16, ground := Go.Ground.data }, { on := 9, ground := Go.Ground.guard }], guard := some (9, true) } hHeld ?_
                    try simp only [Act.put, sA, sB, sC]
                    refine wT 18 { dst := some 111, op := Go.Op.binOp Go.BinOp.neq 3 (Go.Operand.tmp 106) (Go.Operand.tmp 110) 3, type := 4, pos := "law.go:168", after := #[{ on := 13, ground := Go.Ground.data }, { on := 17, ground := Go.Ground.data }, { on := 9, ground := Go.Ground.guard }], guard := some (9, true) } (v := .bool false) hHeld ?_ (by intro w0 hSw; (try dsimp only at hSw); go_simp; first | done | simp)
                    try simp only [Act.put, sA, sB, sC]
                    refine wT 19 { dst := some 112, op := Go.Op.pick (Go.Operand.tmp 102) (Go.Operand.tmp 111) (Go.Operand.const (Go.Value.bool false)), type := 4, pos := "law.go:168", after := #[{ on := 9, ground := Go.Ground.data }, { on := 18, ground := Go.Ground.data }], guard := none } hHeld ?_
                    try simp only [Act.put, sA, sB, sC]
                    refine wT 20 { dst := some 113, op := Go.Op.move (Go.Operand.tmp 112), type := 4, pos := "law.go:168", after := #[{ on := 19, ground := Go.Ground.data }, { on := 9, ground := Go.Ground.chain }], guard := none } hHeld ?_
                    try simp only [Act.put, sA, sB, sC]
                    refine wT 21 { dst := some 114, op := Go.Op.move (Go.Operand.tmp 2), type := 23, pos := "law.go:168", after := #[{ on := 20, ground := Go.Ground.guard }], guard := some (20, false) } hHeld ?_
                    try simp only [Act.put, sA, sB, sC]
                    refine wT 22 { dst := some 115, op := Go.Op.move (Go.Operand.tmp 13), type := 3, pos := "law.go:168", after := #[{ on := 20, ground := Go.Ground.guard }], guard := some (20, false) } hHeld ?_
                    try simp only [Act.put, sA, sB, sC]
                    refine wO 23 { dst := some 116, op := Go.Op.call { callee := Go.Callee.value (Go.Operand.func 11), args := #[Go.Operand.tmp 114, Go.Operand.tmp 115], argTypes := #[23, 3] }, type := 4, pos := "law.go:168", after := #[{ on := 21, ground := Go.Ground.data }, { on := 22, ground := Go.Ground.data }, { on := 20, ground := Go.Ground.chain }, { on := 20, ground := Go.Ground.guard }], guard := some (20, false) } (fun K' hK' => ?_)
                    go_simp
                    go_at_call 11
                    refine Calls.mono (CI.out _) ?_
                    rintro _ w8 ⟨rfl, rfl⟩
                    have hz := hid hHeld
                    refine hK'.out _ _ hz.out (fun hHeld => ?_)
                    clear hK' K'
                    try simp only [Act.put, sA, sB, sC]
                    refine wT 24 { dst := some 117, op := Go.Op.move (Go.Operand.tmp 116), type := 4, pos := "law.go:168", after := #[{ on := 23, ground := Go.Ground.data }, { on := 23, ground := Go.Ground.chain }, { on := 20, ground := Go.Ground.guard }], guard := some (20, false) } hHeld ?_
                    try simp only [Act.put, sA, sB, sC]
                    refine wU 25 { dst := some 118, op := Go.Op.move (Go.Operand.tmp 2), type := 23, pos := "law.go:168", after := #[{ on := 24, ground := Go.Ground.guard }], guard := some (24, true) } hHeld ?_
                    try simp only [Act.put, sA, sB, sC]
                    refine wU 26 { dst := some 119, op := Go.Op.move (Go.Operand.tmp 14), type := 3, pos := "law.go:168", after := #[{ on := 24, ground := Go.Ground.guard }], guard := some (24, true) } hHeld ?_
                    try simp only [Act.put, sA, sB, sC]
                    refine wU 27 { dst := some 120, op := Go.Op.call { callee := Go.Callee.value (Go.Operand.func 11), args := #[Go.Operand.tmp 118, Go.Operand.tmp 119], argTypes := #[23, 3] }, type := 4, pos := "law.go:168", after := #[{ on := 25, ground := Go.Ground.data }, { on := 26, ground := Go.Ground.data }, { on := 24, ground := Go.Ground.chain }, { on := 24, ground := Go.Ground.guard }], guard := some (24, true) } hHeld ?_
                    try simp only [Act.put, sA, sB, sC]
                    refine wT 28 { dst := some 121, op := Go.Op.pick (Go.Operand.tmp 117) (Go.Operand.tmp 120) (Go.Operand.const (Go.Value.bool false)), type := 4, pos := "law.go:168", after := #[{ on := 24, ground := Go.Ground.data }, { on := 27, ground := Go.Ground.data }, { on := 20, ground := Go.Ground.guard }], guard := some (20, false) } hHeld ?_
                    try simp only [Act.put, sA, sB, sC]
                    refine wT 29 { dst := some 122, op := Go.Op.move (Go.Operand.tmp 121), type := 4, pos := "law.go:168", after := #[{ on := 28, ground := Go.Ground.data }, { on := 27, ground := Go.Ground.chain }, { on := 20, ground := Go.Ground.guard }], guard := some (20, false) } hHeld ?_
                    try simp only [Act.put, sA, sB, sC]
                    refine wU 30 { dst := some 123, op := Go.Op.move (Go.Operand.tmp 12), type := 25, pos := "law.go:168", after := #[{ on := 29, ground := Go.Ground.guard }], guard := some (29, true) } hHeld ?_
                    try simp only [Act.put, sA, sB, sC]
                    refine wU 31 { dst := some 124, op := Go.Op.move (Go.Operand.tmp 13), type := 3, pos := "law.go:168", after := #[{ on := 29, ground := Go.Ground.guard }], guard := some (29, true) } hHeld ?_
                    try simp only [Act.put, sA, sB, sC]
                    refine wU 32 { dst := some 125, op := Go.Op.indexAddr 25 (Go.Operand.tmp 123) (Go.Operand.tmp 124), type := 0, pos := "law.go:168", after := #[{ on := 30, ground := Go.Ground.data }, { on := 31, ground := Go.Ground.data }, { on := 29, ground := Go.Ground.guard }], guard := some (29, true) } hHeld ?_
                    try simp only [Act.put, sA, sB, sC]
                    refine wU 33 { dst := some 126, op := Go.Op.load 3 (Go.Operand.tmp 125), type := 3, pos := "law.go:168", after := #[{ on := 32, ground := Go.Ground.data }, { on := 29, ground := Go.Ground.guard }], guard := some (29, true) } hHeld ?_
                    try simp only [Act.put, sA, sB, sC]
                    refine wU 34 { dst := some 127, op := Go.Op.move (Go.Operand.tmp 12), type := 25, pos := "law.go:168", after := #[{ on := 29, ground := Go.Ground.guard }], guard := some (29, true) } hHeld ?_
                    try simp only [Act.put, sA, sB, sC]
                    refine wU 35 { dst := some 128, op := Go.Op.move (Go.Operand.tmp 14), type := 3, pos := "law.go:168", after := #[{ on := 29, ground := Go.Ground.guard }], guard := some (29, true) } hHeld ?_
                    try simp only [Act.put, sA, sB, sC]
                    refine wU 36 { dst := some 129, op := Go.Op.indexAddr 25 (Go.Operand.tmp 127) (Go.Operand.tmp 128), type := 0, pos := "law.go:168", after := #[{ on := 34, ground := Go.Ground.data }, { on := 35, ground := Go.Ground.data }, { on := 29, ground := Go.Ground.guard }], guard := some (29, true) } hHeld ?_
                    try simp only [Act.put, sA, sB, sC]
                    refine wU 37 { dst := some 130, op := Go.Op.load 3 (Go.Operand.tmp 129), type := 3, pos := "law.go:168", after := #[{ on := 36, ground := Go.Ground.data }, { on := 29, ground := Go.Ground.guard }], guard := some (29, true) } hHeld ?_
                    try simp only [Act.put, sA, sB, sC]
                    refine wU 38 { dst := some 131, op := Go.Op.binOp Go.BinOp.neq 3 (Go.Operand.tmp 126) (Go.Operand.tmp 130) 3, type := 4, pos := "law.go:168", after := #[{ on := 33, ground := Go.Ground.data }, { on := 37, ground := Go.Ground.data }, { on := 29, ground := Go.Ground.guard }], guard := some (29, true) } hHeld ?_
                    try simp only [Act.put, sA, sB, sC]
                    refine wT 39 { dst := some 132, op := Go.Op.pick (Go.Operand.tmp 122) (Go.Operand.tmp 131) (Go.Operand.const (Go.Value.bool false)), type := 4, pos := "law.go:168", after := #[{ on := 29, ground := Go.Ground.data }, { on := 38, ground := Go.Ground.data }, { on := 20, ground := Go.Ground.guard }], guard := some (20, false) } hHeld ?_
                    try simp only [Act.put, sA, sB, sC]
                    refine wT 40 { dst := some 133, op := Go.Op.pick (Go.Operand.tmp 113) (Go.Operand.const (Go.Value.bool true)) (Go.Operand.tmp 132), type := 4, pos := "law.go:168", after := #[{ on := 20, ground := Go.Ground.data }, { on := 39, ground := Go.Ground.data }], guard := none } hHeld ?_
                    try simp only [Act.put, sA, sB, sC]
                    refine wpAnyH_done (by kernel_rfl) ?_ _
                    clear hHeld
                    go_wp2_with fail
                    go_roundw
                    case rel => exact ⟨k + 1, by go_num, hnext.out, hid D.out.drew⟩
                    case measure => have := hnext.out; simp [intOf]; omega
                  case false.true =>
                    go_wp2_with fail
                    refine wp_region_held_drew (S := fun (w' : World) => w'.cell? ⟨b1, o1 + i, none⟩ = some (.int .i64 (yi : Int)) ∧ w'.cell? ⟨b1, o1 + k, none⟩ = some (.int .i64 (yi : Int)) ∧ w'.cell? ⟨b3, o3 + i, none⟩ = some (.int .i64 (zi : Int)) ∧ w'.cell? ⟨b3, o3 + k, none⟩ = some (.int .i64 (zi : Int))) (by kernel_rfl) (⟨c1, c2, c3, c4⟩) (fun hHeld => ?_)
                    refine wT 0 { dst := some 93, op := Go.Op.move (Go.Operand.tmp 11), type := 25, pos := "law.go:168", after := #[], guard := none } hHeld ?_
                    try simp only [Act.put, sA, sB, sC]
                    refine wT 1 { dst := some 94, op := Go.Op.move (Go.Operand.tmp 13), type := 3, pos := "law.go:168", after := #[], guard := none } hHeld ?_
                    try simp only [Act.put, sA, sB, sC]
                    refine wT 2 { dst := some 95, op := Go.Op.indexAddr 25 (Go.Operand.tmp 93) (Go.Operand.tmp 94), type := 0, pos := "law.go:168", after := #[{ on := 0, ground := Go.Ground.data }, { on := 1, ground := Go.Ground.data }], guard := none } hHeld ?_
                    try simp only [Act.put, sA, sB, sC]
                    refine wT 3 { dst := some 96, op := Go.Op.load 3 (Go.Operand.tmp 95), type := 3, pos := "law.go:168", after := #[{ on := 2, ground := Go.Ground.data }], guard := none } hHeld ?_
                    try simp only [Act.put, sA, sB, sC]
                    refine wT 4 { dst := some 97, op := Go.Op.move (Go.Operand.tmp 11), type := 25, pos := "law.go:168", after := #[], guard := none } hHeld ?_
                    try simp only [Act.put, sA, sB, sC]
                    refine wT 5 { dst := some 98, op := Go.Op.move (Go.Operand.tmp 14), type := 3, pos := "law.go:168", after := #[], guard := none } hHeld ?_
                    try simp only [Act.put, sA, sB, sC]
                    refine wT 6 { dst := some 99, op := Go.Op.indexAddr 25 (Go.Operand.tmp 97) (Go.Operand.tmp 98), type := 0, pos := "law.go:168", after := #[{ on := 4, ground := Go.Ground.data }, { on := 5, ground := Go.Ground.data }], guard := none } hHeld ?_
                    try simp only [Act.put, sA, sB, sC]
                    refine wT 7 { dst := some 100, op := Go.Op.load 3 (Go.Operand.tmp 99), type := 3, pos := "law.go:168", after := #[{ on := 6, ground := Go.Ground.data }], guard := none } hHeld ?_
                    try simp only [Act.put, sA, sB, sC]
                    refine wT 8 { dst := some 101, op := Go.Op.binOp Go.BinOp.eql 3 (Go.Operand.tmp 96) (Go.Operand.tmp 100) 3, type := 4, pos := "law.go:168", after := #[{ on := 3, ground := Go.Ground.data }, { on := 7, ground := Go.Ground.data }], guard := none } (v := .bool true) hHeld ?_ (by intro w0 hSw; (try dsimp only at hSw); go_simp; first | done | simp)
                    try simp only [Act.put, sA, sB, sC]
                    refine wT 9 { dst := some 102, op := Go.Op.move (Go.Operand.tmp 101), type := 4, pos := "law.go:168", after := #[{ on := 8, ground := Go.Ground.data }], guard := none } hHeld ?_
                    try simp only [Act.put, sA, sB, sC]
                    refine wT 10 { dst := some 103, op := Go.Op.move (Go.Operand.tmp 12), type := 25, pos := "law.go:168", after := #[{ on := 9, ground := Go.Ground.guard }], guard := some (9, true) } hHeld ?_
                    try simp only [Act.put, sA, sB, sC]
                    refine wT 11 { dst := some 104, op := Go.Op.move (Go.Operand.tmp 13), type := 3, pos := "law.go:168", after := #[{ on := 9, ground := Go.Ground.guard }], guard := some (9, true) } hHeld ?_
                    try simp only [Act.put, sA, sB, sC]
                    refine wT 12 { dst := some 105, op := Go.Op.indexAddr 25 (Go.Operand.tmp 103) (Go.Operand.tmp 104), type := 0, pos := "law.go:168", after := #[{ on := 10, ground := Go.Ground.data }, { on := 11, ground := Go.Ground.data }, { on := 9, ground := Go.Ground.guard }], guard := some (9, true) } hHeld ?_
                    try simp only [Act.put, sA, sB, sC]
                    refine wT 13 { dst := some 106, op := Go.Op.load 3 (Go.Operand.tmp 105), type := 3, pos := "law.go:168", after := #[{ on := 12, ground := Go.Ground.data }, { on := 9, ground := Go.Ground.guard }], guard := some (9, true) } hHeld ?_
                    try simp only [Act.put, sA, sB, sC]
                    refine wT 14 { dst := some 107, op := Go.Op.move (Go.Operand.tmp 12), type := 25, pos := "law.go:168", after := #[{ on := 9, ground := Go.Ground.guard }], guard := some (9, true) } hHeld ?_
                    try simp only [Act.put, sA, sB, sC]
                    refine wT 15 { dst := some 108, op := Go.Op.move (Go.Operand.tmp 14), type := 3, pos := "law.go:168", after := #[{ on := 9, ground := Go.Ground.guard }], guard := some (9, true) } hHeld ?_
                    try simp only [Act.put, sA, sB, sC]
                    refine wT 16 { dst := some 109, op := Go.Op.indexAddr 25 (Go.Operand.tmp 107) (Go.Operand.tmp 108), type := 0, pos := "law.go:168", after := #[{ on := 14, ground := Go.Ground.data }, { on := 15, ground := Go.Ground.data }, { on := 9, ground := Go.Ground.guard }], guard := some (9, true) } hHeld ?_
                    try simp only [Act.put, sA, sB, sC]
                    refine wT 17 { dst := some 110, op := Go.Op.load 3 (Go.Operand.tmp 109), type := 3, pos := "law.go:168", after := #[{ on := 16, ground := Go.Ground.data }, { on := 9, ground := Go.Ground.guard }], guard := some (9, true) } hHeld ?_
                    try simp only [Act.put, sA, sB, sC]
                    refine wT 18 { dst := some 111, op := Go.Op.binOp Go.BinOp.neq 3 (Go.Operand.tmp 106) (Go.Operand.tmp 110) 3, type := 4, pos := "law.go:168", after := #[{ on := 13, ground := Go.Ground.data }, { on := 17, ground := Go.Ground.data }, { on := 9, ground := Go.Ground.guard }], guard := some (9, true) } (v := .bool false) hHeld ?_ (by intro w0 hSw; (try dsimp only at hSw); go_simp; first | done | simp)
                    try simp only [Act.put, sA, sB, sC]
                    refine wT 19 { dst := some 112, op := Go.Op.pick (Go.Operand.tmp 102) (Go.Operand.tmp 111) (Go.Operand.const (Go.Value.bool false)), type := 4, pos := "law.go:168", after := #[{ on := 9, ground := Go.Ground.data }, { on := 18, ground := Go.Ground.data }], guard := none } hHeld ?_
                    try simp only [Act.put, sA, sB, sC]
                    refine wT 20 { dst := some 113, op := Go.Op.move (Go.Operand.tmp 112), type := 4, pos := "law.go:168", after := #[{ on := 19, ground := Go.Ground.data }, { on := 9, ground := Go.Ground.chain }], guard := none } hHeld ?_
                    try simp only [Act.put, sA, sB, sC]
                    refine wT 21 { dst := some 114, op := Go.Op.move (Go.Operand.tmp 2), type := 23, pos := "law.go:168", after := #[{ on := 20, ground := Go.Ground.guard }], guard := some (20, false) } hHeld ?_
                    try simp only [Act.put, sA, sB, sC]
                    refine wT 22 { dst := some 115, op := Go.Op.move (Go.Operand.tmp 13), type := 3, pos := "law.go:168", after := #[{ on := 20, ground := Go.Ground.guard }], guard := some (20, false) } hHeld ?_
                    try simp only [Act.put, sA, sB, sC]
                    refine wO 23 { dst := some 116, op := Go.Op.call { callee := Go.Callee.value (Go.Operand.func 11), args := #[Go.Operand.tmp 114, Go.Operand.tmp 115], argTypes := #[23, 3] }, type := 4, pos := "law.go:168", after := #[{ on := 21, ground := Go.Ground.data }, { on := 22, ground := Go.Ground.data }, { on := 20, ground := Go.Ground.chain }, { on := 20, ground := Go.Ground.guard }], guard := some (20, false) } (fun K' hK' => ?_)
                    go_simp
                    go_at_call 11
                    refine Calls.mono (CI.out _) ?_
                    rintro _ w8 ⟨rfl, rfl⟩
                    have hz := hid hHeld
                    refine hK'.out _ _ hz.out (fun hHeld => ?_)
                    clear hK' K'
                    try simp only [Act.put, sA, sB, sC]
                    refine wT 24 { dst := some 117, op := Go.Op.move (Go.Operand.tmp 116), type := 4, pos := "law.go:168", after := #[{ on := 23, ground := Go.Ground.data }, { on := 23, ground := Go.Ground.chain }, { on := 20, ground := Go.Ground.guard }], guard := some (20, false) } hHeld ?_
                    try simp only [Act.put, sA, sB, sC]
                    refine wU 25 { dst := some 118, op := Go.Op.move (Go.Operand.tmp 2), type := 23, pos := "law.go:168", after := #[{ on := 24, ground := Go.Ground.guard }], guard := some (24, true) } hHeld ?_
                    try simp only [Act.put, sA, sB, sC]
                    refine wU 26 { dst := some 119, op := Go.Op.move (Go.Operand.tmp 14), type := 3, pos := "law.go:168", after := #[{ on := 24, ground := Go.Ground.guard }], guard := some (24, true) } hHeld ?_
                    try simp only [Act.put, sA, sB, sC]
                    refine wU 27 { dst := some 120, op := Go.Op.call { callee := Go.Callee.value (Go.Operand.func 11), args := #[Go.Operand.tmp 118, Go.Operand.tmp 119], argTypes := #[23, 3] }, type := 4, pos := "law.go:168", after := #[{ on := 25, ground := Go.Ground.data }, { on := 26, ground := Go.Ground.data }, { on := 24, ground := Go.Ground.chain }, { on := 24, ground := Go.Ground.guard }], guard := some (24, true) } hHeld ?_
                    try simp only [Act.put, sA, sB, sC]
                    refine wT 28 { dst := some 121, op := Go.Op.pick (Go.Operand.tmp 117) (Go.Operand.tmp 120) (Go.Operand.const (Go.Value.bool false)), type := 4, pos := "law.go:168", after := #[{ on := 24, ground := Go.Ground.data }, { on := 27, ground := Go.Ground.data }, { on := 20, ground := Go.Ground.guard }], guard := some (20, false) } hHeld ?_
                    try simp only [Act.put, sA, sB, sC]
                    refine wT 29 { dst := some 122, op := Go.Op.move (Go.Operand.tmp 121), type := 4, pos := "law.go:168", after := #[{ on := 28, ground := Go.Ground.data }, { on := 27, ground := Go.Ground.chain }, { on := 20, ground := Go.Ground.guard }], guard := some (20, false) } hHeld ?_
                    try simp only [Act.put, sA, sB, sC]
                    refine wU 30 { dst := some 123, op := Go.Op.move (Go.Operand.tmp 12), type := 25, pos := "law.go:168", after := #[{ on := 29, ground := Go.Ground.guard }], guard := some (29, true) } hHeld ?_
                    try simp only [Act.put, sA, sB, sC]
                    refine wU 31 { dst := some 124, op := Go.Op.move (Go.Operand.tmp 13), type := 3, pos := "law.go:168", after := #[{ on := 29, ground := Go.Ground.guard }], guard := some (29, true) } hHeld ?_
                    try simp only [Act.put, sA, sB, sC]
                    refine wU 32 { dst := some 125, op := Go.Op.indexAddr 25 (Go.Operand.tmp 123) (Go.Operand.tmp 124), type := 0, pos := "law.go:168", after := #[{ on := 30, ground := Go.Ground.data }, { on := 31, ground := Go.Ground.data }, { on := 29, ground := Go.Ground.guard }], guard := some (29, true) } hHeld ?_
                    try simp only [Act.put, sA, sB, sC]
                    refine wU 33 { dst := some 126, op := Go.Op.load 3 (Go.Operand.tmp 125), type := 3, pos := "law.go:168", after := #[{ on := 32, ground := Go.Ground.data }, { on := 29, ground := Go.Ground.guard }], guard := some (29, true) } hHeld ?_
                    try simp only [Act.put, sA, sB, sC]
                    refine wU 34 { dst := some 127, op := Go.Op.move (Go.Operand.tmp 12), type := 25, pos := "law.go:168", after := #[{ on := 29, ground := Go.Ground.guard }], guard := some (29, true) } hHeld ?_
                    try simp only [Act.put, sA, sB, sC]
                    refine wU 35 { dst := some 128, op := Go.Op.move (Go.Operand.tmp 14), type := 3, pos := "law.go:168", after := #[{ on := 29, ground := Go.Ground.guard }], guard := some (29, true) } hHeld ?_
                    try simp only [Act.put, sA, sB, sC]
                    refine wU 36 { dst := some 129, op := Go.Op.indexAddr 25 (Go.Operand.tmp 127) (Go.Operand.tmp 128), type := 0, pos := "law.go:168", after := #[{ on := 34, ground := Go.Ground.data }, { on := 35, ground := Go.Ground.data }, { on := 29, ground := Go.Ground.guard }], guard := some (29, true) } hHeld ?_
                    try simp only [Act.put, sA, sB, sC]
                    refine wU 37 { dst := some 130, op := Go.Op.load 3 (Go.Operand.tmp 129), type := 3, pos := "law.go:168", after := #[{ on := 36, ground := Go.Ground.data }, { on := 29, ground := Go.Ground.guard }], guard := some (29, true) } hHeld ?_
                    try simp only [Act.put, sA, sB, sC]
                    refine wU 38 { dst := some 131, op := Go.Op.binOp Go.BinOp.neq 3 (Go.Operand.tmp 126) (Go.Operand.tmp 130) 3, type := 4, pos := "law.go:168", after := #[{ on := 33, ground := Go.Ground.data }, { on := 37, ground := Go.Ground.data }, { on := 29, ground := Go.Ground.guard }], guard := some (29, true) } hHeld ?_
                    try simp only [Act.put, sA, sB, sC]
                    refine wT 39 { dst := some 132, op := Go.Op.pick (Go.Operand.tmp 122) (Go.Operand.tmp 131) (Go.Operand.const (Go.Value.bool false)), type := 4, pos := "law.go:168", after := #[{ on := 29, ground := Go.Ground.data }, { on := 38, ground := Go.Ground.data }, { on := 20, ground := Go.Ground.guard }], guard := some (20, false) } hHeld ?_
                    try simp only [Act.put, sA, sB, sC]
                    refine wT 40 { dst := some 133, op := Go.Op.pick (Go.Operand.tmp 113) (Go.Operand.const (Go.Value.bool true)) (Go.Operand.tmp 132), type := 4, pos := "law.go:168", after := #[{ on := 20, ground := Go.Ground.data }, { on := 39, ground := Go.Ground.data }], guard := none } hHeld ?_
                    try simp only [Act.put, sA, sB, sC]
                    refine wpAnyH_done (by kernel_rfl) ?_ _
                    clear hHeld
                    go_wp2_with fail
                    go_roundw
                    case rel => exact ⟨k + 1, by go_num, hnext.out, hid D.out.drew⟩
                    case measure => have := hnext.out; simp [intOf]; omega
                  case true.false =>
                    go_wp2_with fail
                    refine wp_region_held_drew (S := fun (w' : World) => w'.cell? ⟨b1, o1 + i, none⟩ = some (.int .i64 (yi : Int)) ∧ w'.cell? ⟨b1, o1 + k, none⟩ = some (.int .i64 (yi : Int)) ∧ w'.cell? ⟨b3, o3 + i, none⟩ = some (.int .i64 (zi : Int)) ∧ w'.cell? ⟨b3, o3 + k, none⟩ = some (.int .i64 (zi : Int))) (by kernel_rfl) (⟨c1, c2, c3, c4⟩) (fun hHeld => ?_)
                    refine wT 0 { dst := some 93, op := Go.Op.move (Go.Operand.tmp 11), type := 25, pos := "law.go:168", after := #[], guard := none } hHeld ?_
                    try simp only [Act.put, sA, sB, sC]
                    refine wT 1 { dst := some 94, op := Go.Op.move (Go.Operand.tmp 13), type := 3, pos := "law.go:168", after := #[], guard := none } hHeld ?_
                    try simp only [Act.put, sA, sB, sC]
                    refine wT 2 { dst := some 95, op := Go.Op.indexAddr 25 (Go.Operand.tmp 93) (Go.Operand.tmp 94), type := 0, pos := "law.go:168", after := #[{ on := 0, ground := Go.Ground.data }, { on := 1, ground := Go.Ground.data }], guard := none } hHeld ?_
                    try simp only [Act.put, sA, sB, sC]
                    refine wT 3 { dst := some 96, op := Go.Op.load 3 (Go.Operand.tmp 95), type := 3, pos := "law.go:168", after := #[{ on := 2, ground := Go.Ground.data }], guard := none } hHeld ?_
                    try simp only [Act.put, sA, sB, sC]
                    refine wT 4 { dst := some 97, op := Go.Op.move (Go.Operand.tmp 11), type := 25, pos := "law.go:168", after := #[], guard := none } hHeld ?_
                    try simp only [Act.put, sA, sB, sC]
                    refine wT 5 { dst := some 98, op := Go.Op.move (Go.Operand.tmp 14), type := 3, pos := "law.go:168", after := #[], guard := none } hHeld ?_
                    try simp only [Act.put, sA, sB, sC]
                    refine wT 6 { dst := some 99, op := Go.Op.indexAddr 25 (Go.Operand.tmp 97) (Go.Operand.tmp 98), type := 0, pos := "law.go:168", after := #[{ on := 4, ground := Go.Ground.data }, { on := 5, ground := Go.Ground.data }], guard := none } hHeld ?_
                    try simp only [Act.put, sA, sB, sC]
                    refine wT 7 { dst := some 100, op := Go.Op.load 3 (Go.Operand.tmp 99), type := 3, pos := "law.go:168", after := #[{ on := 6, ground := Go.Ground.data }], guard := none } hHeld ?_
                    try simp only [Act.put, sA, sB, sC]
                    refine wT 8 { dst := some 101, op := Go.Op.binOp Go.BinOp.eql 3 (Go.Operand.tmp 96) (Go.Operand.tmp 100) 3, type := 4, pos := "law.go:168", after := #[{ on := 3, ground := Go.Ground.data }, { on := 7, ground := Go.Ground.data }], guard := none } (v := .bool true) hHeld ?_ (by intro w0 hSw; (try dsimp only at hSw); go_simp; first | done | simp)
                    try simp only [Act.put, sA, sB, sC]
                    refine wT 9 { dst := some 102, op := Go.Op.move (Go.Operand.tmp 101), type := 4, pos := "law.go:168", after := #[{ on := 8, ground := Go.Ground.data }], guard := none } hHeld ?_
                    try simp only [Act.put, sA, sB, sC]
                    refine wT 10 { dst := some 103, op := Go.Op.move (Go.Operand.tmp 12), type := 25, pos := "law.go:168", after := #[{ on := 9, ground := Go.Ground.guard }], guard := some (9, true) } hHeld ?_
                    try simp only [Act.put, sA, sB, sC]
                    refine wT 11 { dst := some 104, op := Go.Op.move (Go.Operand.tmp 13), type := 3, pos := "law.go:168", after := #[{ on := 9, ground := Go.Ground.guard }], guard := some (9, true) } hHeld ?_
                    try simp only [Act.put, sA, sB, sC]
                    refine wT 12 { dst := some 105, op := Go.Op.indexAddr 25 (Go.Operand.tmp 103) (Go.Operand.tmp 104), type := 0, pos := "law.go:168", after := #[{ on := 10, ground := Go.Ground.data }, { on := 11, ground := Go.Ground.data }, { on := 9, ground := Go.Ground.guard }], guard := some (9, true) } hHeld ?_
                    try simp only [Act.put, sA, sB, sC]
                    refine wT 13 { dst := some 106, op := Go.Op.load 3 (Go.Operand.tmp 105), type := 3, pos := "law.go:168", after := #[{ on := 12, ground := Go.Ground.data }, { on := 9, ground := Go.Ground.guard }], guard := some (9, true) } hHeld ?_
                    try simp only [Act.put, sA, sB, sC]
                    refine wT 14 { dst := some 107, op := Go.Op.move (Go.Operand.tmp 12), type := 25, pos := "law.go:168", after := #[{ on := 9, ground := Go.Ground.guard }], guard := some (9, true) } hHeld ?_
                    try simp only [Act.put, sA, sB, sC]
                    refine wT 15 { dst := some 108, op := Go.Op.move (Go.Operand.tmp 14), type := 3, pos := "law.go:168", after := #[{ on := 9, ground := Go.Ground.guard }], guard := some (9, true) } hHeld ?_
                    try simp only [Act.put, sA, sB, sC]
                    refine wT 16 { dst := some 109, op := Go.Op.indexAddr 25 (Go.Operand.tmp 107) (Go.Operand.tmp 108), type := 0, pos := "law.go:168", after := #[{ on := 14, ground := Go.Ground.data }, { on := 15, ground := Go.Ground.data }, { on := 9, ground := Go.Ground.guard }], guard := some (9, true) } hHeld ?_
                    try simp only [Act.put, sA, sB, sC]
                    refine wT 17 { dst := some 110, op := Go.Op.load 3 (Go.Operand.tmp 109), type := 3, pos := "law.go:168", after := #[{ on := 16, ground := Go.Ground.data }, { on := 9, ground := Go.Ground.guard }], guard := some (9, true) } hHeld ?_
                    try simp only [Act.put, sA, sB, sC]
                    refine wT 18 { dst := some 111, op := Go.Op.binOp Go.BinOp.neq 3 (Go.Operand.tmp 106) (Go.Operand.tmp 110) 3, type := 4, pos := "law.go:168", after := #[{ on := 13, ground := Go.Ground.data }, { on := 17, ground := Go.Ground.data }, { on := 9, ground := Go.Ground.guard }], guard := some (9, true) } (v := .bool false) hHeld ?_ (by intro w0 hSw; (try dsimp only at hSw); go_simp; first | done | simp)
                    try simp only [Act.put, sA, sB, sC]
                    refine wT 19 { dst := some 112, op := Go.Op.pick (Go.Operand.tmp 102) (Go.Operand.tmp 111) (Go.Operand.const (Go.Value.bool false)), type := 4, pos := "law.go:168", after := #[{ on := 9, ground := Go.Ground.data }, { on := 18, ground := Go.Ground.data }], guard := none } hHeld ?_
                    try simp only [Act.put, sA, sB, sC]
                    refine wT 20 { dst := some 113, op := Go.Op.move (Go.Operand.tmp 112), type := 4, pos := "law.go:168", after := #[{ on := 19, ground := Go.Ground.data }, { on := 9, ground := Go.Ground.chain }], guard := none } hHeld ?_
                    try simp only [Act.put, sA, sB, sC]
                    refine wT 21 { dst := some 114, op := Go.Op.move (Go.Operand.tmp 2), type := 23, pos := "law.go:168", after := #[{ on := 20, ground := Go.Ground.guard }], guard := some (20, false) } hHeld ?_
                    try simp only [Act.put, sA, sB, sC]
                    refine wT 22 { dst := some 115, op := Go.Op.move (Go.Operand.tmp 13), type := 3, pos := "law.go:168", after := #[{ on := 20, ground := Go.Ground.guard }], guard := some (20, false) } hHeld ?_
                    try simp only [Act.put, sA, sB, sC]
                    refine wO 23 { dst := some 116, op := Go.Op.call { callee := Go.Callee.value (Go.Operand.func 11), args := #[Go.Operand.tmp 114, Go.Operand.tmp 115], argTypes := #[23, 3] }, type := 4, pos := "law.go:168", after := #[{ on := 21, ground := Go.Ground.data }, { on := 22, ground := Go.Ground.data }, { on := 20, ground := Go.Ground.chain }, { on := 20, ground := Go.Ground.guard }], guard := some (20, false) } (fun K' hK' => ?_)
                    go_simp
                    go_at_call 11
                    refine Calls.mono (CI.out _) ?_
                    rintro _ w8 ⟨rfl, rfl⟩
                    have hz := hid hHeld
                    refine hK'.out _ _ hz.out (fun hHeld => ?_)
                    clear hK' K'
                    try simp only [Act.put, sA, sB, sC]
                    refine wT 24 { dst := some 117, op := Go.Op.move (Go.Operand.tmp 116), type := 4, pos := "law.go:168", after := #[{ on := 23, ground := Go.Ground.data }, { on := 23, ground := Go.Ground.chain }, { on := 20, ground := Go.Ground.guard }], guard := some (20, false) } hHeld ?_
                    try simp only [Act.put, sA, sB, sC]
                    refine wT 25 { dst := some 118, op := Go.Op.move (Go.Operand.tmp 2), type := 23, pos := "law.go:168", after := #[{ on := 24, ground := Go.Ground.guard }], guard := some (24, true) } hHeld ?_
                    try simp only [Act.put, sA, sB, sC]
                    refine wT 26 { dst := some 119, op := Go.Op.move (Go.Operand.tmp 14), type := 3, pos := "law.go:168", after := #[{ on := 24, ground := Go.Ground.guard }], guard := some (24, true) } hHeld ?_
                    try simp only [Act.put, sA, sB, sC]
                    refine wO 27 { dst := some 120, op := Go.Op.call { callee := Go.Callee.value (Go.Operand.func 11), args := #[Go.Operand.tmp 118, Go.Operand.tmp 119], argTypes := #[23, 3] }, type := 4, pos := "law.go:168", after := #[{ on := 25, ground := Go.Ground.data }, { on := 26, ground := Go.Ground.data }, { on := 24, ground := Go.Ground.chain }, { on := 24, ground := Go.Ground.guard }], guard := some (24, true) } (fun K' hK' => ?_)
                    go_simp
                    go_at_call 11
                    refine Calls.mono (CK.out _) ?_
                    rintro _ w9 ⟨rfl, rfl⟩
                    have hz := hid hHeld
                    refine hK'.out _ _ hz.out (fun hHeld => ?_)
                    clear hK' K'
                    try simp only [Act.put, sA, sB, sC]
                    refine wT 28 { dst := some 121, op := Go.Op.pick (Go.Operand.tmp 117) (Go.Operand.tmp 120) (Go.Operand.const (Go.Value.bool false)), type := 4, pos := "law.go:168", after := #[{ on := 24, ground := Go.Ground.data }, { on := 27, ground := Go.Ground.data }, { on := 20, ground := Go.Ground.guard }], guard := some (20, false) } hHeld ?_
                    try simp only [Act.put, sA, sB, sC]
                    refine wT 29 { dst := some 122, op := Go.Op.move (Go.Operand.tmp 121), type := 4, pos := "law.go:168", after := #[{ on := 28, ground := Go.Ground.data }, { on := 27, ground := Go.Ground.chain }, { on := 20, ground := Go.Ground.guard }], guard := some (20, false) } hHeld ?_
                    try simp only [Act.put, sA, sB, sC]
                    refine wU 30 { dst := some 123, op := Go.Op.move (Go.Operand.tmp 12), type := 25, pos := "law.go:168", after := #[{ on := 29, ground := Go.Ground.guard }], guard := some (29, true) } hHeld ?_
                    try simp only [Act.put, sA, sB, sC]
                    refine wU 31 { dst := some 124, op := Go.Op.move (Go.Operand.tmp 13), type := 3, pos := "law.go:168", after := #[{ on := 29, ground := Go.Ground.guard }], guard := some (29, true) } hHeld ?_
                    try simp only [Act.put, sA, sB, sC]
                    refine wU 32 { dst := some 125, op := Go.Op.indexAddr 25 (Go.Operand.tmp 123) (Go.Operand.tmp 124), type := 0, pos := "law.go:168", after := #[{ on := 30, ground := Go.Ground.data }, { on := 31, ground := Go.Ground.data }, { on := 29, ground := Go.Ground.guard }], guard := some (29, true) } hHeld ?_
                    try simp only [Act.put, sA, sB, sC]
                    refine wU 33 { dst := some 126, op := Go.Op.load 3 (Go.Operand.tmp 125), type := 3, pos := "law.go:168", after := #[{ on := 32, ground := Go.Ground.data }, { on := 29, ground := Go.Ground.guard }], guard := some (29, true) } hHeld ?_
                    try simp only [Act.put, sA, sB, sC]
                    refine wU 34 { dst := some 127, op := Go.Op.move (Go.Operand.tmp 12), type := 25, pos := "law.go:168", after := #[{ on := 29, ground := Go.Ground.guard }], guard := some (29, true) } hHeld ?_
                    try simp only [Act.put, sA, sB, sC]
                    refine wU 35 { dst := some 128, op := Go.Op.move (Go.Operand.tmp 14), type := 3, pos := "law.go:168", after := #[{ on := 29, ground := Go.Ground.guard }], guard := some (29, true) } hHeld ?_
                    try simp only [Act.put, sA, sB, sC]
                    refine wU 36 { dst := some 129, op := Go.Op.indexAddr 25 (Go.Operand.tmp 127) (Go.Operand.tmp 128), type := 0, pos := "law.go:168", after := #[{ on := 34, ground := Go.Ground.data }, { on := 35, ground := Go.Ground.data }, { on := 29, ground := Go.Ground.guard }], guard := some (29, true) } hHeld ?_
                    try simp only [Act.put, sA, sB, sC]
                    refine wU 37 { dst := some 130, op := Go.Op.load 3 (Go.Operand.tmp 129), type := 3, pos := "law.go:168", after := #[{ on := 36, ground := Go.Ground.data }, { on := 29, ground := Go.Ground.guard }], guard := some (29, true) } hHeld ?_
                    try simp only [Act.put, sA, sB, sC]
                    refine wU 38 { dst := some 131, op := Go.Op.binOp Go.BinOp.neq 3 (Go.Operand.tmp 126) (Go.Operand.tmp 130) 3, type := 4, pos := "law.go:168", after := #[{ on := 33, ground := Go.Ground.data }, { on := 37, ground := Go.Ground.data }, { on := 29, ground := Go.Ground.guard }], guard := some (29, true) } hHeld ?_
                    try simp only [Act.put, sA, sB, sC]
                    refine wT 39 { dst := some 132, op := Go.Op.pick (Go.Operand.tmp 122) (Go.Operand.tmp 131) (Go.Operand.const (Go.Value.bool false)), type := 4, pos := "law.go:168", after := #[{ on := 29, ground := Go.Ground.data }, { on := 38, ground := Go.Ground.data }, { on := 20, ground := Go.Ground.guard }], guard := some (20, false) } hHeld ?_
                    try simp only [Act.put, sA, sB, sC]
                    refine wT 40 { dst := some 133, op := Go.Op.pick (Go.Operand.tmp 113) (Go.Operand.const (Go.Value.bool true)) (Go.Operand.tmp 132), type := 4, pos := "law.go:168", after := #[{ on := 20, ground := Go.Ground.data }, { on := 39, ground := Go.Ground.data }], guard := none } hHeld ?_
                    try simp only [Act.put, sA, sB, sC]
                    refine wpAnyH_done (by kernel_rfl) ?_ _
                    clear hHeld
                    go_wp2_with fail
                    go_roundw
                    case rel => exact ⟨k + 1, by go_num, hnext.out, hid D.out.drew⟩
                    case measure => have := hnext.out; simp [intOf]; omega
                  case true.true =>
                    go_wp2_with fail
                    refine wp_region_held_drew (S := fun (w' : World) => w'.cell? ⟨b1, o1 + i, none⟩ = some (.int .i64 (yi : Int)) ∧ w'.cell? ⟨b1, o1 + k, none⟩ = some (.int .i64 (yi : Int)) ∧ w'.cell? ⟨b3, o3 + i, none⟩ = some (.int .i64 (zi : Int)) ∧ w'.cell? ⟨b3, o3 + k, none⟩ = some (.int .i64 (zi : Int))) (by kernel_rfl) (⟨c1, c2, c3, c4⟩) (fun hHeld => ?_)
                    refine wT 0 { dst := some 93, op := Go.Op.move (Go.Operand.tmp 11), type := 25, pos := "law.go:168", after := #[], guard := none } hHeld ?_
                    try simp only [Act.put, sA, sB, sC]
                    refine wT 1 { dst := some 94, op := Go.Op.move (Go.Operand.tmp 13), type := 3, pos := "law.go:168", after := #[], guard := none } hHeld ?_
                    try simp only [Act.put, sA, sB, sC]
                    refine wT 2 { dst := some 95, op := Go.Op.indexAddr 25 (Go.Operand.tmp 93) (Go.Operand.tmp 94), type := 0, pos := "law.go:168", after := #[{ on := 0, ground := Go.Ground.data }, { on := 1, ground := Go.Ground.data }], guard := none } hHeld ?_
                    try simp only [Act.put, sA, sB, sC]
                    refine wT 3 { dst := some 96, op := Go.Op.load 3 (Go.Operand.tmp 95), type := 3, pos := "law.go:168", after := #[{ on := 2, ground := Go.Ground.data }], guard := none } hHeld ?_
                    try simp only [Act.put, sA, sB, sC]
                    refine wT 4 { dst := some 97, op := Go.Op.move (Go.Operand.tmp 11), type := 25, pos := "law.go:168", after := #[], guard := none } hHeld ?_
                    try simp only [Act.put, sA, sB, sC]
                    refine wT 5 { dst := some 98, op := Go.Op.move (Go.Operand.tmp 14), type := 3, pos := "law.go:168", after := #[], guard := none } hHeld ?_
                    try simp only [Act.put, sA, sB, sC]
                    refine wT 6 { dst := some 99, op := Go.Op.indexAddr 25 (Go.Operand.tmp 97) (Go.Operand.tmp 98), type := 0, pos := "law.go:168", after := #[{ on := 4, ground := Go.Ground.data }, { on := 5, ground := Go.Ground.data }], guard := none } hHeld ?_
                    try simp only [Act.put, sA, sB, sC]
                    refine wT 7 { dst := some 100, op := Go.Op.load 3 (Go.Operand.tmp 99), type := 3, pos := "law.go:168", after := #[{ on := 6, ground := Go.Ground.data }], guard := none } hHeld ?_
                    try simp only [Act.put, sA, sB, sC]
                    refine wT 8 { dst := some 101, op := Go.Op.binOp Go.BinOp.eql 3 (Go.Operand.tmp 96) (Go.Operand.tmp 100) 3, type := 4, pos := "law.go:168", after := #[{ on := 3, ground := Go.Ground.data }, { on := 7, ground := Go.Ground.data }], guard := none } (v := .bool true) hHeld ?_ (by intro w0 hSw; (try dsimp only at hSw); go_simp; first | done | simp)
                    try simp only [Act.put, sA, sB, sC]
                    refine wT 9 { dst := some 102, op := Go.Op.move (Go.Operand.tmp 101), type := 4, pos := "law.go:168", after := #[{ on := 8, ground := Go.Ground.data }], guard := none } hHeld ?_
                    try simp only [Act.put, sA, sB, sC]
                    refine wT 10 { dst := some 103, op := Go.Op.move (Go.Operand.tmp 12), type := 25, pos := "law.go:168", after := #[{ on := 9, ground := Go.Ground.guard }], guard := some (9, true) } hHeld ?_
                    try simp only [Act.put, sA, sB, sC]
                    refine wT 11 { dst := some 104, op := Go.Op.move (Go.Operand.tmp 13), type := 3, pos := "law.go:168", after := #[{ on := 9, ground := Go.Ground.guard }], guard := some (9, true) } hHeld ?_
                    try simp only [Act.put, sA, sB, sC]
                    refine wT 12 { dst := some 105, op := Go.Op.indexAddr 25 (Go.Operand.tmp 103) (Go.Operand.tmp 104), type := 0, pos := "law.go:168", after := #[{ on := 10, ground := Go.Ground.data }, { on := 11, ground := Go.Ground.data }, { on := 9, ground := Go.Ground.guard }], guard := some (9, true) } hHeld ?_
                    try simp only [Act.put, sA, sB, sC]
                    refine wT 13 { dst := some 106, op := Go.Op.load 3 (Go.Operand.tmp 105), type := 3, pos := "law.go:168", after := #[{ on := 12, ground := Go.Ground.data }, { on := 9, ground := Go.Ground.guard }], guard := some (9, true) } hHeld ?_
                    try simp only [Act.put, sA, sB, sC]
                    refine wT 14 { dst := some 107, op := Go.Op.move (Go.Operand.tmp 12), type := 25, pos := "law.go:168", after := #[{ on := 9, ground := Go.Ground.guard }], guard := some (9, true) } hHeld ?_
                    try simp only [Act.put, sA, sB, sC]
                    refine wT 15 { dst := some 108, op := Go.Op.move (Go.Operand.tmp 14), type := 3, pos := "law.go:168", after := #[{ on := 9, ground := Go.Ground.guard }], guard := some (9, true) } hHeld ?_
                    try simp only [Act.put, sA, sB, sC]
                    refine wT 16 { dst := some 109, op := Go.Op.indexAddr 25 (Go.Operand.tmp 107) (Go.Operand.tmp 108), type := 0, pos := "law.go:168", after := #[{ on := 14, ground := Go.Ground.data }, { on := 15, ground := Go.Ground.data }, { on := 9, ground := Go.Ground.guard }], guard := some (9, true) } hHeld ?_
                    try simp only [Act.put, sA, sB, sC]
                    refine wT 17 { dst := some 110, op := Go.Op.load 3 (Go.Operand.tmp 109), type := 3, pos := "law.go:168", after := #[{ on := 16, ground := Go.Ground.data }, { on := 9, ground := Go.Ground.guard }], guard := some (9, true) } hHeld ?_
                    try simp only [Act.put, sA, sB, sC]
                    refine wT 18 { dst := some 111, op := Go.Op.binOp Go.BinOp.neq 3 (Go.Operand.tmp 106) (Go.Operand.tmp 110) 3, type := 4, pos := "law.go:168", after := #[{ on := 13, ground := Go.Ground.data }, { on := 17, ground := Go.Ground.data }, { on := 9, ground := Go.Ground.guard }], guard := some (9, true) } (v := .bool false) hHeld ?_ (by intro w0 hSw; (try dsimp only at hSw); go_simp; first | done | simp)
                    try simp only [Act.put, sA, sB, sC]
                    refine wT 19 { dst := some 112, op := Go.Op.pick (Go.Operand.tmp 102) (Go.Operand.tmp 111) (Go.Operand.const (Go.Value.bool false)), type := 4, pos := "law.go:168", after := #[{ on := 9, ground := Go.Ground.data }, { on := 18, ground := Go.Ground.data }], guard := none } hHeld ?_
                    try simp only [Act.put, sA, sB, sC]
                    refine wT 20 { dst := some 113, op := Go.Op.move (Go.Operand.tmp 112), type := 4, pos := "law.go:168", after := #[{ on := 19, ground := Go.Ground.data }, { on := 9, ground := Go.Ground.chain }], guard := none } hHeld ?_
                    try simp only [Act.put, sA, sB, sC]
                    refine wT 21 { dst := some 114, op := Go.Op.move (Go.Operand.tmp 2), type := 23, pos := "law.go:168", after := #[{ on := 20, ground := Go.Ground.guard }], guard := some (20, false) } hHeld ?_
                    try simp only [Act.put, sA, sB, sC]
                    refine wT 22 { dst := some 115, op := Go.Op.move (Go.Operand.tmp 13), type := 3, pos := "law.go:168", after := #[{ on := 20, ground := Go.Ground.guard }], guard := some (20, false) } hHeld ?_
                    try simp only [Act.put, sA, sB, sC]
                    refine wO 23 { dst := some 116, op := Go.Op.call { callee := Go.Callee.value (Go.Operand.func 11), args := #[Go.Operand.tmp 114, Go.Operand.tmp 115], argTypes := #[23, 3] }, type := 4, pos := "law.go:168", after := #[{ on := 21, ground := Go.Ground.data }, { on := 22, ground := Go.Ground.data }, { on := 20, ground := Go.Ground.chain }, { on := 20, ground := Go.Ground.guard }], guard := some (20, false) } (fun K' hK' => ?_)
                    go_simp
                    go_at_call 11
                    refine Calls.mono (CI.out _) ?_
                    rintro _ w8 ⟨rfl, rfl⟩
                    have hz := hid hHeld
                    refine hK'.out _ _ hz.out (fun hHeld => ?_)
                    clear hK' K'
                    try simp only [Act.put, sA, sB, sC]
                    refine wT 24 { dst := some 117, op := Go.Op.move (Go.Operand.tmp 116), type := 4, pos := "law.go:168", after := #[{ on := 23, ground := Go.Ground.data }, { on := 23, ground := Go.Ground.chain }, { on := 20, ground := Go.Ground.guard }], guard := some (20, false) } hHeld ?_
                    try simp only [Act.put, sA, sB, sC]
                    refine wT 25 { dst := some 118, op := Go.Op.move (Go.Operand.tmp 2), type := 23, pos := "law.go:168", after := #[{ on := 24, ground := Go.Ground.guard }], guard := some (24, true) } hHeld ?_
                    try simp only [Act.put, sA, sB, sC]
                    refine wT 26 { dst := some 119, op := Go.Op.move (Go.Operand.tmp 14), type := 3, pos := "law.go:168", after := #[{ on := 24, ground := Go.Ground.guard }], guard := some (24, true) } hHeld ?_
                    try simp only [Act.put, sA, sB, sC]
                    refine wO 27 { dst := some 120, op := Go.Op.call { callee := Go.Callee.value (Go.Operand.func 11), args := #[Go.Operand.tmp 118, Go.Operand.tmp 119], argTypes := #[23, 3] }, type := 4, pos := "law.go:168", after := #[{ on := 25, ground := Go.Ground.data }, { on := 26, ground := Go.Ground.data }, { on := 24, ground := Go.Ground.chain }, { on := 24, ground := Go.Ground.guard }], guard := some (24, true) } (fun K' hK' => ?_)
                    go_simp
                    go_at_call 11
                    refine Calls.mono (CK.out _) ?_
                    rintro _ w9 ⟨rfl, rfl⟩
                    have hz := hid hHeld
                    refine hK'.out _ _ hz.out (fun hHeld => ?_)
                    clear hK' K'
                    try simp only [Act.put, sA, sB, sC]
                    refine wT 28 { dst := some 121, op := Go.Op.pick (Go.Operand.tmp 117) (Go.Operand.tmp 120) (Go.Operand.const (Go.Value.bool false)), type := 4, pos := "law.go:168", after := #[{ on := 24, ground := Go.Ground.data }, { on := 27, ground := Go.Ground.data }, { on := 20, ground := Go.Ground.guard }], guard := some (20, false) } hHeld ?_
                    try simp only [Act.put, sA, sB, sC]
                    refine wT 29 { dst := some 122, op := Go.Op.move (Go.Operand.tmp 121), type := 4, pos := "law.go:168", after := #[{ on := 28, ground := Go.Ground.data }, { on := 27, ground := Go.Ground.chain }, { on := 20, ground := Go.Ground.guard }], guard := some (20, false) } hHeld ?_
                    try simp only [Act.put, sA, sB, sC]
                    refine wT 30 { dst := some 123, op := Go.Op.move (Go.Operand.tmp 12), type := 25, pos := "law.go:168", after := #[{ on := 29, ground := Go.Ground.guard }], guard := some (29, true) } hHeld ?_
                    try simp only [Act.put, sA, sB, sC]
                    refine wT 31 { dst := some 124, op := Go.Op.move (Go.Operand.tmp 13), type := 3, pos := "law.go:168", after := #[{ on := 29, ground := Go.Ground.guard }], guard := some (29, true) } hHeld ?_
                    try simp only [Act.put, sA, sB, sC]
                    refine wT 32 { dst := some 125, op := Go.Op.indexAddr 25 (Go.Operand.tmp 123) (Go.Operand.tmp 124), type := 0, pos := "law.go:168", after := #[{ on := 30, ground := Go.Ground.data }, { on := 31, ground := Go.Ground.data }, { on := 29, ground := Go.Ground.guard }], guard := some (29, true) } hHeld ?_
                    try simp only [Act.put, sA, sB, sC]
                    refine wT 33 { dst := some 126, op := Go.Op.load 3 (Go.Operand.tmp 125), type := 3, pos := "law.go:168", after := #[{ on := 32, ground := Go.Ground.data }, { on := 29, ground := Go.Ground.guard }], guard := some (29, true) } hHeld ?_
                    try simp only [Act.put, sA, sB, sC]
                    refine wT 34 { dst := some 127, op := Go.Op.move (Go.Operand.tmp 12), type := 25, pos := "law.go:168", after := #[{ on := 29, ground := Go.Ground.guard }], guard := some (29, true) } hHeld ?_
                    try simp only [Act.put, sA, sB, sC]
                    refine wT 35 { dst := some 128, op := Go.Op.move (Go.Operand.tmp 14), type := 3, pos := "law.go:168", after := #[{ on := 29, ground := Go.Ground.guard }], guard := some (29, true) } hHeld ?_
                    try simp only [Act.put, sA, sB, sC]
                    refine wT 36 { dst := some 129, op := Go.Op.indexAddr 25 (Go.Operand.tmp 127) (Go.Operand.tmp 128), type := 0, pos := "law.go:168", after := #[{ on := 34, ground := Go.Ground.data }, { on := 35, ground := Go.Ground.data }, { on := 29, ground := Go.Ground.guard }], guard := some (29, true) } hHeld ?_
                    try simp only [Act.put, sA, sB, sC]
                    refine wT 37 { dst := some 130, op := Go.Op.load 3 (Go.Operand.tmp 129), type := 3, pos := "law.go:168", after := #[{ on := 36, ground := Go.Ground.data }, { on := 29, ground := Go.Ground.guard }], guard := some (29, true) } hHeld ?_
                    try simp only [Act.put, sA, sB, sC]
                    refine wT 38 { dst := some 131, op := Go.Op.binOp Go.BinOp.neq 3 (Go.Operand.tmp 126) (Go.Operand.tmp 130) 3, type := 4, pos := "law.go:168", after := #[{ on := 33, ground := Go.Ground.data }, { on := 37, ground := Go.Ground.data }, { on := 29, ground := Go.Ground.guard }], guard := some (29, true) } (v := .bool false) hHeld ?_ (by intro w0 hSw; (try dsimp only at hSw); go_simp; first | done | simp)
                    try simp only [Act.put, sA, sB, sC]
                    refine wT 39 { dst := some 132, op := Go.Op.pick (Go.Operand.tmp 122) (Go.Operand.tmp 131) (Go.Operand.const (Go.Value.bool false)), type := 4, pos := "law.go:168", after := #[{ on := 29, ground := Go.Ground.data }, { on := 38, ground := Go.Ground.data }, { on := 20, ground := Go.Ground.guard }], guard := some (20, false) } hHeld ?_
                    try simp only [Act.put, sA, sB, sC]
                    refine wT 40 { dst := some 133, op := Go.Op.pick (Go.Operand.tmp 113) (Go.Operand.const (Go.Value.bool true)) (Go.Operand.tmp 132), type := 4, pos := "law.go:168", after := #[{ on := 20, ground := Go.Ground.data }, { on := 39, ground := Go.Ground.data }], guard := none } hHeld ?_
                    try simp only [Act.put, sA, sB, sC]
                    refine wpAnyH_done (by kernel_rfl) ?_ _
                    clear hHeld
                    go_wp2_with fail
                    go_roundw
                    case rel => exact ⟨k + 1, by go_num, hnext.out, hid D.out.drew⟩
                    case measure => have := hnext.out; simp [intOf]; omega
                · have q1I : ¬ ((yi : Int) = (yk : Int)) := by omega
                  cases bi <;> cases bk
                  case false.false =>
                    go_wp2_with fail
                    refine wp_region_held_drew (S := fun (w' : World) => w'.cell? ⟨b1, o1 + i, none⟩ = some (.int .i64 (yi : Int)) ∧ w'.cell? ⟨b1, o1 + k, none⟩ = some (.int .i64 (yk : Int)) ∧ w'.cell? ⟨b3, o3 + i, none⟩ = some (.int .i64 (zi : Int)) ∧ w'.cell? ⟨b3, o3 + k, none⟩ = some (.int .i64 (zi : Int))) (by kernel_rfl) (⟨c1, c2, c3, c4⟩) (fun hHeld => ?_)
                    refine wT 0 { dst := some 93, op := Go.Op.move (Go.Operand.tmp 11), type := 25, pos := "law.go:168", after := #[], guard := none } hHeld ?_
                    try simp only [Act.put, sA, sB, sC]
                    refine wT 1 { dst := some 94, op := Go.Op.move (Go.Operand.tmp 13), type := 3, pos := "law.go:168", after := #[], guard := none } hHeld ?_
                    try simp only [Act.put, sA, sB, sC]
                    refine wT 2 { dst := some 95, op := Go.Op.indexAddr 25 (Go.Operand.tmp 93) (Go.Operand.tmp 94), type := 0, pos := "law.go:168", after := #[{ on := 0, ground := Go.Ground.data }, { on := 1, ground := Go.Ground.data }], guard := none } hHeld ?_
                    try simp only [Act.put, sA, sB, sC]
                    refine wT 3 { dst := some 96, op := Go.Op.load 3 (Go.Operand.tmp 95), type := 3, pos := "law.go:168", after := #[{ on := 2, ground := Go.Ground.data }], guard := none } hHeld ?_
                    try simp only [Act.put, sA, sB, sC]
                    refine wT 4 { dst := some 97, op := Go.Op.move (Go.Operand.tmp 11), type := 25, pos := "law.go:168", after := #[], guard := none } hHeld ?_
                    try simp only [Act.put, sA, sB, sC]
                    refine wT 5 { dst := some 98, op := Go.Op.move (Go.Operand.tmp 14), type := 3, pos := "law.go:168", after := #[], guard := none } hHeld ?_
                    try simp only [Act.put, sA, sB, sC]
                    refine wT 6 { dst := some 99, op := Go.Op.indexAddr 25 (Go.Operand.tmp 97) (Go.Operand.tmp 98), type := 0, pos := "law.go:168", after := #[{ on := 4, ground := Go.Ground.data }, { on := 5, ground := Go.Ground.data }], guard := none } hHeld ?_
                    try simp only [Act.put, sA, sB, sC]
                    refine wT 7 { dst := some 100, op := Go.Op.load 3 (Go.Operand.tmp 99), type := 3, pos := "law.go:168", after := #[{ on := 6, ground := Go.Ground.data }], guard := none } hHeld ?_
                    try simp only [Act.put, sA, sB, sC]
                    refine wT 8 { dst := some 101, op := Go.Op.binOp Go.BinOp.eql 3 (Go.Operand.tmp 96) (Go.Operand.tmp 100) 3, type := 4, pos := "law.go:168", after := #[{ on := 3, ground := Go.Ground.data }, { on := 7, ground := Go.Ground.data }], guard := none } (v := .bool false) hHeld ?_ (by intro w0 hSw; (try dsimp only at hSw); go_simp; first | done | simp [q1I] | omega)
                    try simp only [Act.put, sA, sB, sC]
                    refine wT 9 { dst := some 102, op := Go.Op.move (Go.Operand.tmp 101), type := 4, pos := "law.go:168", after := #[{ on := 8, ground := Go.Ground.data }], guard := none } hHeld ?_
                    try simp only [Act.put, sA, sB, sC]
                    refine wU 10 { dst := some 103, op := Go.Op.move (Go.Operand.tmp 12), type := 25, pos := "law.go:168", after := #[{ on := 9, ground := Go.Ground.guard }], guard := some (9, true) } hHeld ?_
                    try simp only [Act.put, sA, sB, sC]
                    refine wU 11 { dst := some 104, op := Go.Op.move (Go.Operand.tmp 13), type := 3, pos := "law.go:168", after := #[{ on := 9, ground := Go.Ground.guard }], guard := some (9, true) } hHeld ?_
                    try simp only [Act.put, sA, sB, sC]
                    refine wU 12 { dst := some 105, op := Go.Op.indexAddr 25 (Go.Operand.tmp 103) (Go.Operand.tmp 104), type := 0, pos := "law.go:168", after := #[{ on := 10, ground := Go.Ground.data }, { on := 11, ground := Go.Ground.data }, { on := 9, ground := Go.Ground.guard }], guard := some (9, true) } hHeld ?_
                    try simp only [Act.put, sA, sB, sC]
                    refine wU 13 { dst := some 106, op := Go.Op.load 3 (Go.Operand.tmp 105), type := 3, pos := "law.go:168", after := #[{ on := 12, ground := Go.Ground.data }, { on := 9, ground := Go.Ground.guard }], guard := some (9, true) } hHeld ?_
                    try simp only [Act.put, sA, sB, sC]
                    refine wU 14 { dst := some 107, op := Go.Op.move (Go.Operand.tmp 12), type := 25, pos := "law.go:168", after := #[{ on := 9, ground := Go.Ground.guard }], guard := some (9, true) } hHeld ?_
                    try simp only [Act.put, sA, sB, sC]
                    refine wU 15 { dst := some 108, op := Go.Op.move (Go.Operand.tmp 14), type := 3, pos := "law.go:168", after := #[{ on := 9, ground := Go.Ground.guard }], guard := some (9, true) } hHeld ?_
                    try simp only [Act.put, sA, sB, sC]
                    refine wU 16 { dst := some 109, op := Go.Op.indexAddr 25 (Go.Operand.tmp 107) (Go.Operand.tmp 108), type := 0, pos := "law.go:168", after := #[{ on := 14, ground := Go.Ground.data }, { on := 15, ground := Go.Ground.data }, { on := 9, ground := Go.Ground.guard }], guard := some (9, true) } hHeld ?_
                    try simp only [Act.put, sA, sB, sC]
                    refine wU 17 { dst := some 110, op := Go.Op.load 3 (Go.Operand.tmp 109), type := 3, pos := "law.go:168", after := #[{ on := 16, ground := Go.Ground.data }, { on := 9, ground := Go.Ground.guard }], guard := some (9, true) } hHeld ?_
                    try simp only [Act.put, sA, sB, sC]
                    refine wU 18 { dst := some 111, op := Go.Op.binOp Go.BinOp.neq 3 (Go.Operand.tmp 106) (Go.Operand.tmp 110) 3, type := 4, pos := "law.go:168", after := #[{ on := 13, ground := Go.Ground.data }, { on := 17, ground := Go.Ground.data }, { on := 9, ground := Go.Ground.guard }], guard := some (9, true) } hHeld ?_
                    try simp only [Act.put, sA, sB, sC]
                    refine wT 19 { dst := some 112, op := Go.Op.pick (Go.Operand.tmp 102) (Go.Operand.tmp 111) (Go.Operand.const (Go.Value.bool false)), type := 4, pos := "law.go:168", after := #[{ on := 9, ground := Go.Ground.data }, { on := 18, ground := Go.Ground.data }], guard := none } hHeld ?_
                    try simp only [Act.put, sA, sB, sC]
                    refine wT 20 { dst := some 113, op := Go.Op.move (Go.Operand.tmp 112), type := 4, pos := "law.go:168", after := #[{ on := 19, ground := Go.Ground.data }, { on := 9, ground := Go.Ground.chain }], guard := none } hHeld ?_
                    try simp only [Act.put, sA, sB, sC]
                    refine wT 21 { dst := some 114, op := Go.Op.move (Go.Operand.tmp 2), type := 23, pos := "law.go:168", after := #[{ on := 20, ground := Go.Ground.guard }], guard := some (20, false) } hHeld ?_
                    try simp only [Act.put, sA, sB, sC]
                    refine wT 22 { dst := some 115, op := Go.Op.move (Go.Operand.tmp 13), type := 3, pos := "law.go:168", after := #[{ on := 20, ground := Go.Ground.guard }], guard := some (20, false) } hHeld ?_
                    try simp only [Act.put, sA, sB, sC]
                    refine wO 23 { dst := some 116, op := Go.Op.call { callee := Go.Callee.value (Go.Operand.func 11), args := #[Go.Operand.tmp 114, Go.Operand.tmp 115], argTypes := #[23, 3] }, type := 4, pos := "law.go:168", after := #[{ on := 21, ground := Go.Ground.data }, { on := 22, ground := Go.Ground.data }, { on := 20, ground := Go.Ground.chain }, { on := 20, ground := Go.Ground.guard }], guard := some (20, false) } (fun K' hK' => ?_)
                    go_simp
                    go_at_call 11
                    refine Calls.mono (CI.out _) ?_
                    rintro _ w8 ⟨rfl, rfl⟩
                    have hz := hid hHeld
                    refine hK'.out _ _ hz.out (fun hHeld => ?_)
                    clear hK' K'
                    try simp only [Act.put, sA, sB, sC]
                    refine wT 24 { dst := some 117, op := Go.Op.move (Go.Operand.tmp 116), type := 4, pos := "law.go:168", after := #[{ on := 23, ground := Go.Ground.data }, { on := 23, ground := Go.Ground.chain }, { on := 20, ground := Go.Ground.guard }], guard := some (20, false) } hHeld ?_
                    try simp only [Act.put, sA, sB, sC]
                    refine wU 25 { dst := some 118, op := Go.Op.move (Go.Operand.tmp 2), type := 23, pos := "law.go:168", after := #[{ on := 24, ground := Go.Ground.guard }], guard := some (24, true) } hHeld ?_
                    try simp only [Act.put, sA, sB, sC]
                    refine wU 26 { dst := some 119, op := Go.Op.move (Go.Operand.tmp 14), type := 3, pos := "law.go:168", after := #[{ on := 24, ground := Go.Ground.guard }], guard := some (24, true) } hHeld ?_
                    try simp only [Act.put, sA, sB, sC]
                    refine wU 27 { dst := some 120, op := Go.Op.call { callee := Go.Callee.value (Go.Operand.func 11), args := #[Go.Operand.tmp 118, Go.Operand.tmp 119], argTypes := #[23, 3] }, type := 4, pos := "law.go:168", after := #[{ on := 25, ground := Go.Ground.data }, { on := 26, ground := Go.Ground.data }, { on := 24, ground := Go.Ground.chain }, { on := 24, ground := Go.Ground.guard }], guard := some (24, true) } hHeld ?_
                    try simp only [Act.put, sA, sB, sC]
                    refine wT 28 { dst := some 121, op := Go.Op.pick (Go.Operand.tmp 117) (Go.Operand.tmp 120) (Go.Operand.const (Go.Value.bool false)), type := 4, pos := "law.go:168", after := #[{ on := 24, ground := Go.Ground.data }, { on := 27, ground := Go.Ground.data }, { on := 20, ground := Go.Ground.guard }], guard := some (20, false) } hHeld ?_
                    try simp only [Act.put, sA, sB, sC]
                    refine wT 29 { dst := some 122, op := Go.Op.move (Go.Operand.tmp 121), type := 4, pos := "law.go:168", after := #[{ on := 28, ground := Go.Ground.data }, { on := 27, ground := Go.Ground.chain }, { on := 20, ground := Go.Ground.guard }], guard := some (20, false) } hHeld ?_
                    try simp only [Act.put, sA, sB, sC]
                    refine wU 30 { dst := some 123, op := Go.Op.move (Go.Operand.tmp 12), type := 25, pos := "law.go:168", after := #[{ on := 29, ground := Go.Ground.guard }], guard := some (29, true) } hHeld ?_
                    try simp only [Act.put, sA, sB, sC]
                    refine wU 31 { dst := some 124, op := Go.Op.move (Go.Operand.tmp 13), type := 3, pos := "law.go:168", after := #[{ on := 29, ground := Go.Ground.guard }], guard := some (29, true) } hHeld ?_
                    try simp only [Act.put, sA, sB, sC]
                    refine wU 32 { dst := some 125, op := Go.Op.indexAddr 25 (Go.Operand.tmp 123) (Go.Operand.tmp 124), type := 0, pos := "law.go:168", after := #[{ on := 30, ground := Go.Ground.data }, { on := 31, ground := Go.Ground.data }, { on := 29, ground := Go.Ground.guard }], guard := some (29, true) } hHeld ?_
                    try simp only [Act.put, sA, sB, sC]
                    refine wU 33 { dst := some 126, op := Go.Op.load 3 (Go.Operand.tmp 125), type := 3, pos := "law.go:168", after := #[{ on := 32, ground := Go.Ground.data }, { on := 29, ground := Go.Ground.guard }], guard := some (29, true) } hHeld ?_
                    try simp only [Act.put, sA, sB, sC]
                    refine wU 34 { dst := some 127, op := Go.Op.move (Go.Operand.tmp 12), type := 25, pos := "law.go:168", after := #[{ on := 29, ground := Go.Ground.guard }], guard := some (29, true) } hHeld ?_
                    try simp only [Act.put, sA, sB, sC]
                    refine wU 35 { dst := some 128, op := Go.Op.move (Go.Operand.tmp 14), type := 3, pos := "law.go:168", after := #[{ on := 29, ground := Go.Ground.guard }], guard := some (29, true) } hHeld ?_
                    try simp only [Act.put, sA, sB, sC]
                    refine wU 36 { dst := some 129, op := Go.Op.indexAddr 25 (Go.Operand.tmp 127) (Go.Operand.tmp 128), type := 0, pos := "law.go:168", after := #[{ on := 34, ground := Go.Ground.data }, { on := 35, ground := Go.Ground.data }, { on := 29, ground := Go.Ground.guard }], guard := some (29, true) } hHeld ?_
                    try simp only [Act.put, sA, sB, sC]
                    refine wU 37 { dst := some 130, op := Go.Op.load 3 (Go.Operand.tmp 129), type := 3, pos := "law.go:168", after := #[{ on := 36, ground := Go.Ground.data }, { on := 29, ground := Go.Ground.guard }], guard := some (29, true) } hHeld ?_
                    try simp only [Act.put, sA, sB, sC]
                    refine wU 38 { dst := some 131, op := Go.Op.binOp Go.BinOp.neq 3 (Go.Operand.tmp 126) (Go.Operand.tmp 130) 3, type := 4, pos := "law.go:168", after := #[{ on := 33, ground := Go.Ground.data }, { on := 37, ground := Go.Ground.data }, { on := 29, ground := Go.Ground.guard }], guard := some (29, true) } hHeld ?_
                    try simp only [Act.put, sA, sB, sC]
                    refine wT 39 { dst := some 132, op := Go.Op.pick (Go.Operand.tmp 122) (Go.Operand.tmp 131) (Go.Operand.const (Go.Value.bool false)), type := 4, pos := "law.go:168", after := #[{ on := 29, ground := Go.Ground.data }, { on := 38, ground := Go.Ground.data }, { on := 20, ground := Go.Ground.guard }], guard := some (20, false) } hHeld ?_
                    try simp only [Act.put, sA, sB, sC]
                    refine wT 40 { dst := some 133, op := Go.Op.pick (Go.Operand.tmp 113) (Go.Operand.const (Go.Value.bool true)) (Go.Operand.tmp 132), type := 4, pos := "law.go:168", after := #[{ on := 20, ground := Go.Ground.data }, { on := 39, ground := Go.Ground.data }], guard := none } hHeld ?_
                    try simp only [Act.put, sA, sB, sC]
                    refine wpAnyH_done (by kernel_rfl) ?_ _
                    clear hHeld
                    go_wp2_with fail
                    go_roundw
                    case rel => exact ⟨k + 1, by go_num, hnext.out, hid D.out.drew⟩
                    case measure => have := hnext.out; simp [intOf]; omega
                  case false.true =>
                    go_wp2_with fail
                    refine wp_region_held_drew (S := fun (w' : World) => w'.cell? ⟨b1, o1 + i, none⟩ = some (.int .i64 (yi : Int)) ∧ w'.cell? ⟨b1, o1 + k, none⟩ = some (.int .i64 (yk : Int)) ∧ w'.cell? ⟨b3, o3 + i, none⟩ = some (.int .i64 (zi : Int)) ∧ w'.cell? ⟨b3, o3 + k, none⟩ = some (.int .i64 (zi : Int))) (by kernel_rfl) (⟨c1, c2, c3, c4⟩) (fun hHeld => ?_)
                    refine wT 0 { dst := some 93, op := Go.Op.move (Go.Operand.tmp 11), type := 25, pos := "law.go:168", after := #[], guard := none } hHeld ?_
                    try simp only [Act.put, sA, sB, sC]
                    refine wT 1 { dst := some 94, op := Go.Op.move (Go.Operand.tmp 13), type := 3, pos := "law.go:168", after := #[], guard := none } hHeld ?_
                    try simp only [Act.put, sA, sB, sC]
                    refine wT 2 { dst := some 95, op := Go.Op.indexAddr 25 (Go.Operand.tmp 93) (Go.Operand.tmp 94), type := 0, pos := "law.go:168", after := #[{ on := 0, ground := Go.Ground.data }, { on := 1, ground := Go.Ground.data }], guard := none } hHeld ?_
                    try simp only [Act.put, sA, sB, sC]
                    refine wT 3 { dst := some 96, op := Go.Op.load 3 (Go.Operand.tmp 95), type := 3, pos := "law.go:168", after := #[{ on := 2, ground := Go.Ground.data }], guard := none } hHeld ?_
                    try simp only [Act.put, sA, sB, sC]
                    refine wT 4 { dst := some 97, op := Go.Op.move (Go.Operand.tmp 11), type := 25, pos := "law.go:168", after := #[], guard := none } hHeld ?_
                    try simp only [Act.put, sA, sB, sC]
                    refine wT 5 { dst := some 98, op := Go.Op.move (Go.Operand.tmp 14), type := 3, pos := "law.go:168", after := #[], guard := none } hHeld ?_
                    try simp only [Act.put, sA, sB, sC]
                    refine wT 6 { dst := some 99, op := Go.Op.indexAddr 25 (Go.Operand.tmp 97) (Go.Operand.tmp 98), type := 0, pos := "law.go:168", after := #[{ on := 4, ground := Go.Ground.data }, { on := 5, ground := Go.Ground.data }], guard := none } hHeld ?_
                    try simp only [Act.put, sA, sB, sC]
                    refine wT 7 { dst := some 100, op := Go.Op.load 3 (Go.Operand.tmp 99), type := 3, pos := "law.go:168", after := #[{ on := 6, ground := Go.Ground.data }], guard := none } hHeld ?_
                    try simp only [Act.put, sA, sB, sC]
                    refine wT 8 { dst := some 101, op := Go.Op.binOp Go.BinOp.eql 3 (Go.Operand.tmp 96) (Go.Operand.tmp 100) 3, type := 4, pos := "law.go:168", after := #[{ on := 3, ground := Go.Ground.data }, { on := 7, ground := Go.Ground.data }], guard := none } (v := .bool false) hHeld ?_ (by intro w0 hSw; (try dsimp only at hSw); go_simp; first | done | simp [q1I] | omega)
                    try simp only [Act.put, sA, sB, sC]
                    refine wT 9 { dst := some 102, op := Go.Op.move (Go.Operand.tmp 101), type := 4, pos := "law.go:168", after := #[{ on := 8, ground := Go.Ground.data }], guard := none } hHeld ?_
                    try simp only [Act.put, sA, sB, sC]
                    refine wU 10 { dst := some 103, op := Go.Op.move (Go.Operand.tmp 12), type := 25, pos := "law.go:168", after := #[{ on := 9, ground := Go.Ground.guard }], guard := some (9, true) } hHeld ?_
                    try simp only [Act.put, sA, sB, sC]
                    refine wU 11 { dst := some 104, op := Go.Op.move (Go.Operand.tmp 13), type := 3, pos := "law.go:168", after := #[{ on := 9, ground := Go.Ground.guard }], guard := some (9, true) } hHeld ?_
                    try simp only [Act.put, sA, sB, sC]
                    refine wU 12 { dst := some 105, op := Go.Op.indexAddr 25 (Go.Operand.tmp 103) (Go.Operand.tmp 104), type := 0, pos := "law.go:168", after := #[{ on := 10, ground := Go.Ground.data }, { on := 11, ground := Go.Ground.data }, { on := 9, ground := Go.Ground.guard }], guard := some (9, true) } hHeld ?_
                    try simp only [Act.put, sA, sB, sC]
                    refine wU 13 { dst := some 106, op := Go.Op.load 3 (Go.Operand.tmp 105), type := 3, pos := "law.go:168", after := #[{ on := 12, ground := Go.Ground.data }, { on := 9, ground := Go.Ground.guard }], guard := some (9, true) } hHeld ?_
                    try simp only [Act.put, sA, sB, sC]
                    refine wU 14 { dst := some 107, op := Go.Op.move (Go.Operand.tmp 12), type := 25, pos := "law.go:168", after := #[{ on := 9, ground := Go.Ground.guard }], guard := some (9, true) } hHeld ?_
                    try simp only [Act.put, sA, sB, sC]
                    refine wU 15 { dst := some 108, op := Go.Op.move (Go.Operand.tmp 14), type := 3, pos := "law.go:168", after := #[{ on := 9, ground := Go.Ground.guard }], guard := some (9, true) } hHeld ?_
                    try simp only [Act.put, sA, sB, sC]
                    refine wU 16 { dst := some 109, op := Go.Op.indexAddr 25 (Go.Operand.tmp 107) (Go.Operand.tmp 108), type := 0, pos := "law.go:168", after := #[{ on := 14, ground := Go.Ground.data }, { on := 15, ground := Go.Ground.data }, { on := 9, ground := Go.Ground.guard }], guard := some (9, true) } hHeld ?_
                    try simp only [Act.put, sA, sB, sC]
                    refine wU 17 { dst := some 110, op := Go.Op.load 3 (Go.Operand.tmp 109), type := 3, pos := "law.go:168", after := #[{ on := 16, ground := Go.Ground.data }, { on := 9, ground := Go.Ground.guard }], guard := some (9, true) } hHeld ?_
                    try simp only [Act.put, sA, sB, sC]
                    refine wU 18 { dst := some 111, op := Go.Op.binOp Go.BinOp.neq 3 (Go.Operand.tmp 106) (Go.Operand.tmp 110) 3, type := 4, pos := "law.go:168", after := #[{ on := 13, ground := Go.Ground.data }, { on := 17, ground := Go.Ground.data }, { on := 9, ground := Go.Ground.guard }], guard := some (9, true) } hHeld ?_
                    try simp only [Act.put, sA, sB, sC]
                    refine wT 19 { dst := some 112, op := Go.Op.pick (Go.Operand.tmp 102) (Go.Operand.tmp 111) (Go.Operand.const (Go.Value.bool false)), type := 4, pos := "law.go:168", after := #[{ on := 9, ground := Go.Ground.data }, { on := 18, ground := Go.Ground.data }], guard := none } hHeld ?_
                    try simp only [Act.put, sA, sB, sC]
                    refine wT 20 { dst := some 113, op := Go.Op.move (Go.Operand.tmp 112), type := 4, pos := "law.go:168", after := #[{ on := 19, ground := Go.Ground.data }, { on := 9, ground := Go.Ground.chain }], guard := none } hHeld ?_
                    try simp only [Act.put, sA, sB, sC]
                    refine wT 21 { dst := some 114, op := Go.Op.move (Go.Operand.tmp 2), type := 23, pos := "law.go:168", after := #[{ on := 20, ground := Go.Ground.guard }], guard := some (20, false) } hHeld ?_
                    try simp only [Act.put, sA, sB, sC]
                    refine wT 22 { dst := some 115, op := Go.Op.move (Go.Operand.tmp 13), type := 3, pos := "law.go:168", after := #[{ on := 20, ground := Go.Ground.guard }], guard := some (20, false) } hHeld ?_
                    try simp only [Act.put, sA, sB, sC]
                    refine wO 23 { dst := some 116, op := Go.Op.call { callee := Go.Callee.value (Go.Operand.func 11), args := #[Go.Operand.tmp 114, Go.Operand.tmp 115], argTypes := #[23, 3] }, type := 4, pos := "law.go:168", after := #[{ on := 21, ground := Go.Ground.data }, { on := 22, ground := Go.Ground.data }, { on := 20, ground := Go.Ground.chain }, { on := 20, ground := Go.Ground.guard }], guard := some (20, false) } (fun K' hK' => ?_)
                    go_simp
                    go_at_call 11
                    refine Calls.mono (CI.out _) ?_
                    rintro _ w8 ⟨rfl, rfl⟩
                    have hz := hid hHeld
                    refine hK'.out _ _ hz.out (fun hHeld => ?_)
                    clear hK' K'
                    try simp only [Act.put, sA, sB, sC]
                    refine wT 24 { dst := some 117, op := Go.Op.move (Go.Operand.tmp 116), type := 4, pos := "law.go:168", after := #[{ on := 23, ground := Go.Ground.data }, { on := 23, ground := Go.Ground.chain }, { on := 20, ground := Go.Ground.guard }], guard := some (20, false) } hHeld ?_
                    try simp only [Act.put, sA, sB, sC]
                    refine wU 25 { dst := some 118, op := Go.Op.move (Go.Operand.tmp 2), type := 23, pos := "law.go:168", after := #[{ on := 24, ground := Go.Ground.guard }], guard := some (24, true) } hHeld ?_
                    try simp only [Act.put, sA, sB, sC]
                    refine wU 26 { dst := some 119, op := Go.Op.move (Go.Operand.tmp 14), type := 3, pos := "law.go:168", after := #[{ on := 24, ground := Go.Ground.guard }], guard := some (24, true) } hHeld ?_
                    try simp only [Act.put, sA, sB, sC]
                    refine wU 27 { dst := some 120, op := Go.Op.call { callee := Go.Callee.value (Go.Operand.func 11), args := #[Go.Operand.tmp 118, Go.Operand.tmp 119], argTypes := #[23, 3] }, type := 4, pos := "law.go:168", after := #[{ on := 25, ground := Go.Ground.data }, { on := 26, ground := Go.Ground.data }, { on := 24, ground := Go.Ground.chain }, { on := 24, ground := Go.Ground.guard }], guard := some (24, true) } hHeld ?_
                    try simp only [Act.put, sA, sB, sC]
                    refine wT 28 { dst := some 121, op := Go.Op.pick (Go.Operand.tmp 117) (Go.Operand.tmp 120) (Go.Operand.const (Go.Value.bool false)), type := 4, pos := "law.go:168", after := #[{ on := 24, ground := Go.Ground.data }, { on := 27, ground := Go.Ground.data }, { on := 20, ground := Go.Ground.guard }], guard := some (20, false) } hHeld ?_
                    try simp only [Act.put, sA, sB, sC]
                    refine wT 29 { dst := some 122, op := Go.Op.move (Go.Operand.tmp 121), type := 4, pos := "law.go:168", after := #[{ on := 28, ground := Go.Ground.data }, { on := 27, ground := Go.Ground.chain }, { on := 20, ground := Go.Ground.guard }], guard := some (20, false) } hHeld ?_
                    try simp only [Act.put, sA, sB, sC]
                    refine wU 30 { dst := some 123, op := Go.Op.move (Go.Operand.tmp 12), type := 25, pos := "law.go:168", after := #[{ on := 29, ground := Go.Ground.guard }], guard := some (29, true) } hHeld ?_
                    try simp only [Act.put, sA, sB, sC]
                    refine wU 31 { dst := some 124, op := Go.Op.move (Go.Operand.tmp 13), type := 3, pos := "law.go:168", after := #[{ on := 29, ground := Go.Ground.guard }], guard := some (29, true) } hHeld ?_
                    try simp only [Act.put, sA, sB, sC]
                    refine wU 32 { dst := some 125, op := Go.Op.indexAddr 25 (Go.Operand.tmp 123) (Go.Operand.tmp 124), type := 0, pos := "law.go:168", after := #[{ on := 30, ground := Go.Ground.data }, { on := 31, ground := Go.Ground.data }, { on := 29, ground := Go.Ground.guard }], guard := some (29, true) } hHeld ?_
                    try simp only [Act.put, sA, sB, sC]
                    refine wU 33 { dst := some 126, op := Go.Op.load 3 (Go.Operand.tmp 125), type := 3, pos := "law.go:168", after := #[{ on := 32, ground := Go.Ground.data }, { on := 29, ground := Go.Ground.guard }], guard := some (29, true) } hHeld ?_
                    try simp only [Act.put, sA, sB, sC]
                    refine wU 34 { dst := some 127, op := Go.Op.move (Go.Operand.tmp 12), type := 25, pos := "law.go:168", after := #[{ on := 29, ground := Go.Ground.guard }], guard := some (29, true) } hHeld ?_
                    try simp only [Act.put, sA, sB, sC]
                    refine wU 35 { dst := some 128, op := Go.Op.move (Go.Operand.tmp 14), type := 3, pos := "law.go:168", after := #[{ on := 29, ground := Go.Ground.guard }], guard := some (29, true) } hHeld ?_
                    try simp only [Act.put, sA, sB, sC]
                    refine wU 36 { dst := some 129, op := Go.Op.indexAddr 25 (Go.Operand.tmp 127) (Go.Operand.tmp 128), type := 0, pos := "law.go:168", after := #[{ on := 34, ground := Go.Ground.data }, { on := 35, ground := Go.Ground.data }, { on := 29, ground := Go.Ground.guard }], guard := some (29, true) } hHeld ?_
                    try simp only [Act.put, sA, sB, sC]
                    refine wU 37 { dst := some 130, op := Go.Op.load 3 (Go.Operand.tmp 129), type := 3, pos := "law.go:168", after := #[{ on := 36, ground := Go.Ground.data }, { on := 29, ground := Go.Ground.guard }], guard := some (29, true) } hHeld ?_
                    try simp only [Act.put, sA, sB, sC]
                    refine wU 38 { dst := some 131, op := Go.Op.binOp Go.BinOp.neq 3 (Go.Operand.tmp 126) (Go.Operand.tmp 130) 3, type := 4, pos := "law.go:168", after := #[{ on := 33, ground := Go.Ground.data }, { on := 37, ground := Go.Ground.data }, { on := 29, ground := Go.Ground.guard }], guard := some (29, true) } hHeld ?_
                    try simp only [Act.put, sA, sB, sC]
                    refine wT 39 { dst := some 132, op := Go.Op.pick (Go.Operand.tmp 122) (Go.Operand.tmp 131) (Go.Operand.const (Go.Value.bool false)), type := 4, pos := "law.go:168", after := #[{ on := 29, ground := Go.Ground.data }, { on := 38, ground := Go.Ground.data }, { on := 20, ground := Go.Ground.guard }], guard := some (20, false) } hHeld ?_
                    try simp only [Act.put, sA, sB, sC]
                    refine wT 40 { dst := some 133, op := Go.Op.pick (Go.Operand.tmp 113) (Go.Operand.const (Go.Value.bool true)) (Go.Operand.tmp 132), type := 4, pos := "law.go:168", after := #[{ on := 20, ground := Go.Ground.data }, { on := 39, ground := Go.Ground.data }], guard := none } hHeld ?_
                    try simp only [Act.put, sA, sB, sC]
                    refine wpAnyH_done (by kernel_rfl) ?_ _
                    clear hHeld
                    go_wp2_with fail
                    go_roundw
                    case rel => exact ⟨k + 1, by go_num, hnext.out, hid D.out.drew⟩
                    case measure => have := hnext.out; simp [intOf]; omega
                  case true.false =>
                    go_wp2_with fail
                    refine wp_region_held_drew (S := fun (w' : World) => w'.cell? ⟨b1, o1 + i, none⟩ = some (.int .i64 (yi : Int)) ∧ w'.cell? ⟨b1, o1 + k, none⟩ = some (.int .i64 (yk : Int)) ∧ w'.cell? ⟨b3, o3 + i, none⟩ = some (.int .i64 (zi : Int)) ∧ w'.cell? ⟨b3, o3 + k, none⟩ = some (.int .i64 (zi : Int))) (by kernel_rfl) (⟨c1, c2, c3, c4⟩) (fun hHeld => ?_)
                    refine wT 0 { dst := some 93, op := Go.Op.move (Go.Operand.tmp 11), type := 25, pos := "law.go:168", after := #[], guard := none } hHeld ?_
                    try simp only [Act.put, sA, sB, sC]
                    refine wT 1 { dst := some 94, op := Go.Op.move (Go.Operand.tmp 13), type := 3, pos := "law.go:168", after := #[], guard := none } hHeld ?_
                    try simp only [Act.put, sA, sB, sC]
                    refine wT 2 { dst := some 95, op := Go.Op.indexAddr 25 (Go.Operand.tmp 93) (Go.Operand.tmp 94), type := 0, pos := "law.go:168", after := #[{ on := 0, ground := Go.Ground.data }, { on := 1, ground := Go.Ground.data }], guard := none } hHeld ?_
                    try simp only [Act.put, sA, sB, sC]
                    refine wT 3 { dst := some 96, op := Go.Op.load 3 (Go.Operand.tmp 95), type := 3, pos := "law.go:168", after := #[{ on := 2, ground := Go.Ground.data }], guard := none } hHeld ?_
                    try simp only [Act.put, sA, sB, sC]
                    refine wT 4 { dst := some 97, op := Go.Op.move (Go.Operand.tmp 11), type := 25, pos := "law.go:168", after := #[], guard := none } hHeld ?_
                    try simp only [Act.put, sA, sB, sC]
                    refine wT 5 { dst := some 98, op := Go.Op.move (Go.Operand.tmp 14), type := 3, pos := "law.go:168", after := #[], guard := none } hHeld ?_
                    try simp only [Act.put, sA, sB, sC]
                    refine wT 6 { dst := some 99, op := Go.Op.indexAddr 25 (Go.Operand.tmp 97) (Go.Operand.tmp 98), type := 0, pos := "law.go:168", after := #[{ on := 4, ground := Go.Ground.data }, { on := 5, ground := Go.Ground.data }], guard := none } hHeld ?_
                    try simp only [Act.put, sA, sB, sC]
                    refine wT 7 { dst := some 100, op := Go.Op.load 3 (Go.Operand.tmp 99), type := 3, pos := "law.go:168", after := #[{ on := 6, ground := Go.Ground.data }], guard := none } hHeld ?_
                    try simp only [Act.put, sA, sB, sC]
                    refine wT 8 { dst := some 101, op := Go.Op.binOp Go.BinOp.eql 3 (Go.Operand.tmp 96) (Go.Operand.tmp 100) 3, type := 4, pos := "law.go:168", after := #[{ on := 3, ground := Go.Ground.data }, { on := 7, ground := Go.Ground.data }], guard := none } (v := .bool false) hHeld ?_ (by intro w0 hSw; (try dsimp only at hSw); go_simp; first | done | simp [q1I] | omega)
                    try simp only [Act.put, sA, sB, sC]
                    refine wT 9 { dst := some 102, op := Go.Op.move (Go.Operand.tmp 101), type := 4, pos := "law.go:168", after := #[{ on := 8, ground := Go.Ground.data }], guard := none } hHeld ?_
                    try simp only [Act.put, sA, sB, sC]
                    refine wU 10 { dst := some 103, op := Go.Op.move (Go.Operand.tmp 12), type := 25, pos := "law.go:168", after := #[{ on := 9, ground := Go.Ground.guard }], guard := some (9, true) } hHeld ?_
                    try simp only [Act.put, sA, sB, sC]
                    refine wU 11 { dst := some 104, op := Go.Op.move (Go.Operand.tmp 13), type := 3, pos := "law.go:168", after := #[{ on := 9, ground := Go.Ground.guard }], guard := some (9, true) } hHeld ?_
                    try simp only [Act.put, sA, sB, sC]
                    refine wU 12 { dst := some 105, op := Go.Op.indexAddr 25 (Go.Operand.tmp 103) (Go.Operand.tmp 104), type := 0, pos := "law.go:168", after := #[{ on := 10, ground := Go.Ground.data }, { on := 11, ground := Go.Ground.data }, { on := 9, ground := Go.Ground.guard }], guard := some (9, true) } hHeld ?_
                    try simp only [Act.put, sA, sB, sC]
                    refine wU 13 { dst := some 106, op := Go.Op.load 3 (Go.Operand.tmp 105), type := 3, pos := "law.go:168", after := #[{ on := 12, ground := Go.Ground.data }, { on := 9, ground := Go.Ground.guard }], guard := some (9, true) } hHeld ?_
                    try simp only [Act.put, sA, sB, sC]
                    refine wU 14 { dst := some 107, op := Go.Op.move (Go.Operand.tmp 12), type := 25, pos := "law.go:168", after := #[{ on := 9, ground := Go.Ground.guard }], guard := some (9, true) } hHeld ?_
                    try simp only [Act.put, sA, sB, sC]
                    refine wU 15 { dst := some 108, op := Go.Op.move (Go.Operand.tmp 14), type := 3, pos := "law.go:168", after := #[{ on := 9, ground := Go.Ground.guard }], guard := some (9, true) } hHeld ?_
                    try simp only [Act.put, sA, sB, sC]
                    refine wU 16 { dst := some 109, op := Go.Op.indexAddr 25 (Go.Operand.tmp 107) (Go.Operand.tmp 108), type := 0, pos := "law.go:168", after := #[{ on := 14, ground := Go.Ground.data }, { on := 15, ground := Go.Ground.data }, { on := 9, ground := Go.Ground.guard }], guard := some (9, true) } hHeld ?_
                    try simp only [Act.put, sA, sB, sC]
                    refine wU 17 { dst := some 110, op := Go.Op.load 3 (Go.Operand.tmp 109), type := 3, pos := "law.go:168", after := #[{ on := 16, ground := Go.Ground.data }, { on := 9, ground := Go.Ground.guard }], guard := some (9, true) } hHeld ?_
                    try simp only [Act.put, sA, sB, sC]
                    refine wU 18 { dst := some 111, op := Go.Op.binOp Go.BinOp.neq 3 (Go.Operand.tmp 106) (Go.Operand.tmp 110) 3, type := 4, pos := "law.go:168", after := #[{ on := 13, ground := Go.Ground.data }, { on := 17, ground := Go.Ground.data }, { on := 9, ground := Go.Ground.guard }], guard := some (9, true) } hHeld ?_
                    try simp only [Act.put, sA, sB, sC]
                    refine wT 19 { dst := some 112, op := Go.Op.pick (Go.Operand.tmp 102) (Go.Operand.tmp 111) (Go.Operand.const (Go.Value.bool false)), type := 4, pos := "law.go:168", after := #[{ on := 9, ground := Go.Ground.data }, { on := 18, ground := Go.Ground.data }], guard := none } hHeld ?_
                    try simp only [Act.put, sA, sB, sC]
                    refine wT 20 { dst := some 113, op := Go.Op.move (Go.Operand.tmp 112), type := 4, pos := "law.go:168", after := #[{ on := 19, ground := Go.Ground.data }, { on := 9, ground := Go.Ground.chain }], guard := none } hHeld ?_
                    try simp only [Act.put, sA, sB, sC]
                    refine wT 21 { dst := some 114, op := Go.Op.move (Go.Operand.tmp 2), type := 23, pos := "law.go:168", after := #[{ on := 20, ground := Go.Ground.guard }], guard := some (20, false) } hHeld ?_
                    try simp only [Act.put, sA, sB, sC]
                    refine wT 22 { dst := some 115, op := Go.Op.move (Go.Operand.tmp 13), type := 3, pos := "law.go:168", after := #[{ on := 20, ground := Go.Ground.guard }], guard := some (20, false) } hHeld ?_
                    try simp only [Act.put, sA, sB, sC]
                    refine wO 23 { dst := some 116, op := Go.Op.call { callee := Go.Callee.value (Go.Operand.func 11), args := #[Go.Operand.tmp 114, Go.Operand.tmp 115], argTypes := #[23, 3] }, type := 4, pos := "law.go:168", after := #[{ on := 21, ground := Go.Ground.data }, { on := 22, ground := Go.Ground.data }, { on := 20, ground := Go.Ground.chain }, { on := 20, ground := Go.Ground.guard }], guard := some (20, false) } (fun K' hK' => ?_)
                    go_simp
                    go_at_call 11
                    refine Calls.mono (CI.out _) ?_
                    rintro _ w8 ⟨rfl, rfl⟩
                    have hz := hid hHeld
                    refine hK'.out _ _ hz.out (fun hHeld => ?_)
                    clear hK' K'
                    try simp only [Act.put, sA, sB, sC]
                    refine wT 24 { dst := some 117, op := Go.Op.move (Go.Operand.tmp 116), type := 4, pos := "law.go:168", after := #[{ on := 23, ground := Go.Ground.data }, { on := 23, ground := Go.Ground.chain }, { on := 20, ground := Go.Ground.guard }], guard := some (20, false) } hHeld ?_
                    try simp only [Act.put, sA, sB, sC]
                    refine wT 25 { dst := some 118, op := Go.Op.move (Go.Operand.tmp 2), type := 23, pos := "law.go:168", after := #[{ on := 24, ground := Go.Ground.guard }], guard := some (24, true) } hHeld ?_
                    try simp only [Act.put, sA, sB, sC]
                    refine wT 26 { dst := some 119, op := Go.Op.move (Go.Operand.tmp 14), type := 3, pos := "law.go:168", after := #[{ on := 24, ground := Go.Ground.guard }], guard := some (24, true) } hHeld ?_
                    try simp only [Act.put, sA, sB, sC]
                    refine wO 27 { dst := some 120, op := Go.Op.call { callee := Go.Callee.value (Go.Operand.func 11), args := #[Go.Operand.tmp 118, Go.Operand.tmp 119], argTypes := #[23, 3] }, type := 4, pos := "law.go:168", after := #[{ on := 25, ground := Go.Ground.data }, { on := 26, ground := Go.Ground.data }, { on := 24, ground := Go.Ground.chain }, { on := 24, ground := Go.Ground.guard }], guard := some (24, true) } (fun K' hK' => ?_)
                    go_simp
                    go_at_call 11
                    refine Calls.mono (CK.out _) ?_
                    rintro _ w9 ⟨rfl, rfl⟩
                    have hz := hid hHeld
                    refine hK'.out _ _ hz.out (fun hHeld => ?_)
                    clear hK' K'
                    try simp only [Act.put, sA, sB, sC]
                    refine wT 28 { dst := some 121, op := Go.Op.pick (Go.Operand.tmp 117) (Go.Operand.tmp 120) (Go.Operand.const (Go.Value.bool false)), type := 4, pos := "law.go:168", after := #[{ on := 24, ground := Go.Ground.data }, { on := 27, ground := Go.Ground.data }, { on := 20, ground := Go.Ground.guard }], guard := some (20, false) } hHeld ?_
                    try simp only [Act.put, sA, sB, sC]
                    refine wT 29 { dst := some 122, op := Go.Op.move (Go.Operand.tmp 121), type := 4, pos := "law.go:168", after := #[{ on := 28, ground := Go.Ground.data }, { on := 27, ground := Go.Ground.chain }, { on := 20, ground := Go.Ground.guard }], guard := some (20, false) } hHeld ?_
                    try simp only [Act.put, sA, sB, sC]
                    refine wU 30 { dst := some 123, op := Go.Op.move (Go.Operand.tmp 12), type := 25, pos := "law.go:168", after := #[{ on := 29, ground := Go.Ground.guard }], guard := some (29, true) } hHeld ?_
                    try simp only [Act.put, sA, sB, sC]
                    refine wU 31 { dst := some 124, op := Go.Op.move (Go.Operand.tmp 13), type := 3, pos := "law.go:168", after := #[{ on := 29, ground := Go.Ground.guard }], guard := some (29, true) } hHeld ?_
                    try simp only [Act.put, sA, sB, sC]
                    refine wU 32 { dst := some 125, op := Go.Op.indexAddr 25 (Go.Operand.tmp 123) (Go.Operand.tmp 124), type := 0, pos := "law.go:168", after := #[{ on := 30, ground := Go.Ground.data }, { on := 31, ground := Go.Ground.data }, { on := 29, ground := Go.Ground.guard }], guard := some (29, true) } hHeld ?_
                    try simp only [Act.put, sA, sB, sC]
                    refine wU 33 { dst := some 126, op := Go.Op.load 3 (Go.Operand.tmp 125), type := 3, pos := "law.go:168", after := #[{ on := 32, ground := Go.Ground.data }, { on := 29, ground := Go.Ground.guard }], guard := some (29, true) } hHeld ?_
                    try simp only [Act.put, sA, sB, sC]
                    refine wU 34 { dst := some 127, op := Go.Op.move (Go.Operand.tmp 12), type := 25, pos := "law.go:168", after := #[{ on := 29, ground := Go.Ground.guard }], guard := some (29, true) } hHeld ?_
                    try simp only [Act.put, sA, sB, sC]
                    refine wU 35 { dst := some 128, op := Go.Op.move (Go.Operand.tmp 14), type := 3, pos := "law.go:168", after := #[{ on := 29, ground := Go.Ground.guard }], guard := some (29, true) } hHeld ?_
                    try simp only [Act.put, sA, sB, sC]
                    refine wU 36 { dst := some 129, op := Go.Op.indexAddr 25 (Go.Operand.tmp 127) (Go.Operand.tmp 128), type := 0, pos := "law.go:168", after := #[{ on := 34, ground := Go.Ground.data }, { on := 35, ground := Go.Ground.data }, { on := 29, ground := Go.Ground.guard }], guard := some (29, true) } hHeld ?_
                    try simp only [Act.put, sA, sB, sC]
                    refine wU 37 { dst := some 130, op := Go.Op.load 3 (Go.Operand.tmp 129), type := 3, pos := "law.go:168", after := #[{ on := 36, ground := Go.Ground.data }, { on := 29, ground := Go.Ground.guard }], guard := some (29, true) } hHeld ?_
                    try simp only [Act.put, sA, sB, sC]
                    refine wU 38 { dst := some 131, op := Go.Op.binOp Go.BinOp.neq 3 (Go.Operand.tmp 126) (Go.Operand.tmp 130) 3, type := 4, pos := "law.go:168", after := #[{ on := 33, ground := Go.Ground.data }, { on := 37, ground := Go.Ground.data }, { on := 29, ground := Go.Ground.guard }], guard := some (29, true) } hHeld ?_
                    try simp only [Act.put, sA, sB, sC]
                    refine wT 39 { dst := some 132, op := Go.Op.pick (Go.Operand.tmp 122) (Go.Operand.tmp 131) (Go.Operand.const (Go.Value.bool false)), type := 4, pos := "law.go:168", after := #[{ on := 29, ground := Go.Ground.data }, { on := 38, ground := Go.Ground.data }, { on := 20, ground := Go.Ground.guard }], guard := some (20, false) } hHeld ?_
                    try simp only [Act.put, sA, sB, sC]
                    refine wT 40 { dst := some 133, op := Go.Op.pick (Go.Operand.tmp 113) (Go.Operand.const (Go.Value.bool true)) (Go.Operand.tmp 132), type := 4, pos := "law.go:168", after := #[{ on := 20, ground := Go.Ground.data }, { on := 39, ground := Go.Ground.data }], guard := none } hHeld ?_
                    try simp only [Act.put, sA, sB, sC]
                    refine wpAnyH_done (by kernel_rfl) ?_ _
                    clear hHeld
                    go_wp2_with fail
                    go_roundw
                    case rel => exact ⟨k + 1, by go_num, hnext.out, hid D.out.drew⟩
                    case measure => have := hnext.out; simp [intOf]; omega
                  case true.true =>
                    go_wp2_with fail
                    refine wp_region_held_drew (S := fun (w' : World) => w'.cell? ⟨b1, o1 + i, none⟩ = some (.int .i64 (yi : Int)) ∧ w'.cell? ⟨b1, o1 + k, none⟩ = some (.int .i64 (yk : Int)) ∧ w'.cell? ⟨b3, o3 + i, none⟩ = some (.int .i64 (zi : Int)) ∧ w'.cell? ⟨b3, o3 + k, none⟩ = some (.int .i64 (zi : Int))) (by kernel_rfl) (⟨c1, c2, c3, c4⟩) (fun hHeld => ?_)
                    refine wT 0 { dst := some 93, op := Go.Op.move (Go.Operand.tmp 11), type := 25, pos := "law.go:168", after := #[], guard := none } hHeld ?_
                    try simp only [Act.put, sA, sB, sC]
                    refine wT 1 { dst := some 94, op := Go.Op.move (Go.Operand.tmp 13), type := 3, pos := "law.go:168", after := #[], guard := none } hHeld ?_
                    try simp only [Act.put, sA, sB, sC]
                    refine wT 2 { dst := some 95, op := Go.Op.indexAddr 25 (Go.Operand.tmp 93) (Go.Operand.tmp 94), type := 0, pos := "law.go:168", after := #[{ on := 0, ground := Go.Ground.data }, { on := 1, ground := Go.Ground.data }], guard := none } hHeld ?_
                    try simp only [Act.put, sA, sB, sC]
                    refine wT 3 { dst := some 96, op := Go.Op.load 3 (Go.Operand.tmp 95), type := 3, pos := "law.go:168", after := #[{ on := 2, ground := Go.Ground.data }], guard := none } hHeld ?_
                    try simp only [Act.put, sA, sB, sC]
                    refine wT 4 { dst := some 97, op := Go.Op.move (Go.Operand.tmp 11), type := 25, pos := "law.go:168", after := #[], guard := none } hHeld ?_
                    try simp only [Act.put, sA, sB, sC]
                    refine wT 5 { dst := some 98, op := Go.Op.move (Go.Operand.tmp 14), type := 3, pos := "law.go:168", after := #[], guard := none } hHeld ?_
                    try simp only [Act.put, sA, sB, sC]
                    refine wT 6 { dst := some 99, op := Go.Op.indexAddr 25 (Go.Operand.tmp 97) (Go.Operand.tmp 98), type := 0, pos := "law.go:168", after := #[{ on := 4, ground := Go.Ground.data }, { on := 5, ground := Go.Ground.data }], guard := none } hHeld ?_
                    try simp only [Act.put, sA, sB, sC]
                    refine wT 7 { dst := some 100, op := Go.Op.load 3 (Go.Operand.tmp 99), type := 3, pos := "law.go:168", after := #[{ on := 6, ground := Go.Ground.data }], guard := none } hHeld ?_
                    try simp only [Act.put, sA, sB, sC]
                    refine wT 8 { dst := some 101, op := Go.Op.binOp Go.BinOp.eql 3 (Go.Operand.tmp 96) (Go.Operand.tmp 100) 3, type := 4, pos := "law.go:168", after := #[{ on := 3, ground := Go.Ground.data }, { on := 7, ground := Go.Ground.data }], guard := none } (v := .bool false) hHeld ?_ (by intro w0 hSw; (try dsimp only at hSw); go_simp; first | done | simp [q1I] | omega)
                    try simp only [Act.put, sA, sB, sC]
                    refine wT 9 { dst := some 102, op := Go.Op.move (Go.Operand.tmp 101), type := 4, pos := "law.go:168", after := #[{ on := 8, ground := Go.Ground.data }], guard := none } hHeld ?_
                    try simp only [Act.put, sA, sB, sC]
                    refine wU 10 { dst := some 103, op := Go.Op.move (Go.Operand.tmp 12), type := 25, pos := "law.go:168", after := #[{ on := 9, ground := Go.Ground.guard }], guard := some (9, true) } hHeld ?_
                    try simp only [Act.put, sA, sB, sC]
                    refine wU 11 { dst := some 104, op := Go.Op.move (Go.Operand.tmp 13), type := 3, pos := "law.go:168", after := #[{ on := 9, ground := Go.Ground.guard }], guard := some (9, true) } hHeld ?_
                    try simp only [Act.put, sA, sB, sC]
                    refine wU 12 { dst := some 105, op := Go.Op.indexAddr 25 (Go.Operand.tmp 103) (Go.Operand.tmp 104), type := 0, pos := "law.go:168", after := #[{ on := 10, ground := Go.Ground.data }, { on := 11, ground := Go.Ground.data }, { on := 9, ground := Go.Ground.guard }], guard := some (9, true) } hHeld ?_
                    try simp only [Act.put, sA, sB, sC]
                    refine wU 13 { dst := some 106, op := Go.Op.load 3 (Go.Operand.tmp 105), type := 3, pos := "law.go:168", after := #[{ on := 12, ground := Go.Ground.data }, { on := 9, ground := Go.Ground.guard }], guard := some (9, true) } hHeld ?_
                    try simp only [Act.put, sA, sB, sC]
                    refine wU 14 { dst := some 107, op := Go.Op.move (Go.Operand.tmp 12), type := 25, pos := "law.go:168", after := #[{ on := 9, ground := Go.Ground.guard }], guard := some (9, true) } hHeld ?_
                    try simp only [Act.put, sA, sB, sC]
                    refine wU 15 { dst := some 108, op := Go.Op.move (Go.Operand.tmp 14), type := 3, pos := "law.go:168", after := #[{ on := 9, ground := Go.Ground.guard }], guard := some (9, true) } hHeld ?_
                    try simp only [Act.put, sA, sB, sC]
                    refine wU 16 { dst := some 109, op := Go.Op.indexAddr 25 (Go.Operand.tmp 107) (Go.Operand.tmp 108), type := 0, pos := "law.go:168", after := #[{ on := 14, ground := Go.Ground.data }, { on := 15, ground := Go.Ground.data }, { on := 9, ground := Go.Ground.guard }], guard := some (9, true) } hHeld ?_
                    try simp only [Act.put, sA, sB, sC]
                    refine wU 17 { dst := some 110, op := Go.Op.load 3 (Go.Operand.tmp 109), type := 3, pos := "law.go:168", after := #[{ on := 16, ground := Go.Ground.data }, { on := 9, ground := Go.Ground.guard }], guard := some (9, true) } hHeld ?_
                    try simp only [Act.put, sA, sB, sC]
                    refine wU 18 { dst := some 111, op := Go.Op.binOp Go.BinOp.neq 3 (Go.Operand.tmp 106) (Go.Operand.tmp 110) 3, type := 4, pos := "law.go:168", after := #[{ on := 13, ground := Go.Ground.data }, { on := 17, ground := Go.Ground.data }, { on := 9, ground := Go.Ground.guard }], guard := some (9, true) } hHeld ?_
                    try simp only [Act.put, sA, sB, sC]
                    refine wT 19 { dst := some 112, op := Go.Op.pick (Go.Operand.tmp 102) (Go.Operand.tmp 111) (Go.Operand.const (Go.Value.bool false)), type := 4, pos := "law.go:168", after := #[{ on := 9, ground := Go.Ground.data }, { on := 18, ground := Go.Ground.data }], guard := none } hHeld ?_
                    try simp only [Act.put, sA, sB, sC]
                    refine wT 20 { dst := some 113, op := Go.Op.move (Go.Operand.tmp 112), type := 4, pos := "law.go:168", after := #[{ on := 19, ground := Go.Ground.data }, { on := 9, ground := Go.Ground.chain }], guard := none } hHeld ?_
                    try simp only [Act.put, sA, sB, sC]
                    refine wT 21 { dst := some 114, op := Go.Op.move (Go.Operand.tmp 2), type := 23, pos := "law.go:168", after := #[{ on := 20, ground := Go.Ground.guard }], guard := some (20, false) } hHeld ?_
                    try simp only [Act.put, sA, sB, sC]
                    refine wT 22 { dst := some 115, op := Go.Op.move (Go.Operand.tmp 13), type := 3, pos := "law.go:168", after := #[{ on := 20, ground := Go.Ground.guard }], guard := some (20, false) } hHeld ?_
                    try simp only [Act.put, sA, sB, sC]
                    refine wO 23 { dst := some 116, op := Go.Op.call { callee := Go.Callee.value (Go.Operand.func 11), args := #[Go.Operand.tmp 114, Go.Operand.tmp 115], argTypes := #[23, 3] }, type := 4, pos := "law.go:168", after := #[{ on := 21, ground := Go.Ground.data }, { on := 22, ground := Go.Ground.data }, { on := 20, ground := Go.Ground.chain }, { on := 20, ground := Go.Ground.guard }], guard := some (20, false) } (fun K' hK' => ?_)
                    go_simp
                    go_at_call 11
                    refine Calls.mono (CI.out _) ?_
                    rintro _ w8 ⟨rfl, rfl⟩
                    have hz := hid hHeld
                    refine hK'.out _ _ hz.out (fun hHeld => ?_)
                    clear hK' K'
                    try simp only [Act.put, sA, sB, sC]
                    refine wT 24 { dst := some 117, op := Go.Op.move (Go.Operand.tmp 116), type := 4, pos := "law.go:168", after := #[{ on := 23, ground := Go.Ground.data }, { on := 23, ground := Go.Ground.chain }, { on := 20, ground := Go.Ground.guard }], guard := some (20, false) } hHeld ?_
                    try simp only [Act.put, sA, sB, sC]
                    refine wT 25 { dst := some 118, op := Go.Op.move (Go.Operand.tmp 2), type := 23, pos := "law.go:168", after := #[{ on := 24, ground := Go.Ground.guard }], guard := some (24, true) } hHeld ?_
                    try simp only [Act.put, sA, sB, sC]
                    refine wT 26 { dst := some 119, op := Go.Op.move (Go.Operand.tmp 14), type := 3, pos := "law.go:168", after := #[{ on := 24, ground := Go.Ground.guard }], guard := some (24, true) } hHeld ?_
                    try simp only [Act.put, sA, sB, sC]
                    refine wO 27 { dst := some 120, op := Go.Op.call { callee := Go.Callee.value (Go.Operand.func 11), args := #[Go.Operand.tmp 118, Go.Operand.tmp 119], argTypes := #[23, 3] }, type := 4, pos := "law.go:168", after := #[{ on := 25, ground := Go.Ground.data }, { on := 26, ground := Go.Ground.data }, { on := 24, ground := Go.Ground.chain }, { on := 24, ground := Go.Ground.guard }], guard := some (24, true) } (fun K' hK' => ?_)
                    go_simp
                    go_at_call 11
                    refine Calls.mono (CK.out _) ?_
                    rintro _ w9 ⟨rfl, rfl⟩
                    have hz := hid hHeld
                    refine hK'.out _ _ hz.out (fun hHeld => ?_)
                    clear hK' K'
                    try simp only [Act.put, sA, sB, sC]
                    refine wT 28 { dst := some 121, op := Go.Op.pick (Go.Operand.tmp 117) (Go.Operand.tmp 120) (Go.Operand.const (Go.Value.bool false)), type := 4, pos := "law.go:168", after := #[{ on := 24, ground := Go.Ground.data }, { on := 27, ground := Go.Ground.data }, { on := 20, ground := Go.Ground.guard }], guard := some (20, false) } hHeld ?_
                    try simp only [Act.put, sA, sB, sC]
                    refine wT 29 { dst := some 122, op := Go.Op.move (Go.Operand.tmp 121), type := 4, pos := "law.go:168", after := #[{ on := 28, ground := Go.Ground.data }, { on := 27, ground := Go.Ground.chain }, { on := 20, ground := Go.Ground.guard }], guard := some (20, false) } hHeld ?_
                    try simp only [Act.put, sA, sB, sC]
                    refine wT 30 { dst := some 123, op := Go.Op.move (Go.Operand.tmp 12), type := 25, pos := "law.go:168", after := #[{ on := 29, ground := Go.Ground.guard }], guard := some (29, true) } hHeld ?_
                    try simp only [Act.put, sA, sB, sC]
                    refine wT 31 { dst := some 124, op := Go.Op.move (Go.Operand.tmp 13), type := 3, pos := "law.go:168", after := #[{ on := 29, ground := Go.Ground.guard }], guard := some (29, true) } hHeld ?_
                    try simp only [Act.put, sA, sB, sC]
                    refine wT 32 { dst := some 125, op := Go.Op.indexAddr 25 (Go.Operand.tmp 123) (Go.Operand.tmp 124), type := 0, pos := "law.go:168", after := #[{ on := 30, ground := Go.Ground.data }, { on := 31, ground := Go.Ground.data }, { on := 29, ground := Go.Ground.guard }], guard := some (29, true) } hHeld ?_
                    try simp only [Act.put, sA, sB, sC]
                    refine wT 33 { dst := some 126, op := Go.Op.load 3 (Go.Operand.tmp 125), type := 3, pos := "law.go:168", after := #[{ on := 32, ground := Go.Ground.data }, { on := 29, ground := Go.Ground.guard }], guard := some (29, true) } hHeld ?_
                    try simp only [Act.put, sA, sB, sC]
                    refine wT 34 { dst := some 127, op := Go.Op.move (Go.Operand.tmp 12), type := 25, pos := "law.go:168", after := #[{ on := 29, ground := Go.Ground.guard }], guard := some (29, true) } hHeld ?_
                    try simp only [Act.put, sA, sB, sC]
                    refine wT 35 { dst := some 128, op := Go.Op.move (Go.Operand.tmp 14), type := 3, pos := "law.go:168", after := #[{ on := 29, ground := Go.Ground.guard }], guard := some (29, true) } hHeld ?_
                    try simp only [Act.put, sA, sB, sC]
                    refine wT 36 { dst := some 129, op := Go.Op.indexAddr 25 (Go.Operand.tmp 127) (Go.Operand.tmp 128), type := 0, pos := "law.go:168", after := #[{ on := 34, ground := Go.Ground.data }, { on := 35, ground := Go.Ground.data }, { on := 29, ground := Go.Ground.guard }], guard := some (29, true) } hHeld ?_
                    try simp only [Act.put, sA, sB, sC]
                    refine wT 37 { dst := some 130, op := Go.Op.load 3 (Go.Operand.tmp 129), type := 3, pos := "law.go:168", after := #[{ on := 36, ground := Go.Ground.data }, { on := 29, ground := Go.Ground.guard }], guard := some (29, true) } hHeld ?_
                    try simp only [Act.put, sA, sB, sC]
                    refine wT 38 { dst := some 131, op := Go.Op.binOp Go.BinOp.neq 3 (Go.Operand.tmp 126) (Go.Operand.tmp 130) 3, type := 4, pos := "law.go:168", after := #[{ on := 33, ground := Go.Ground.data }, { on := 37, ground := Go.Ground.data }, { on := 29, ground := Go.Ground.guard }], guard := some (29, true) } (v := .bool false) hHeld ?_ (by intro w0 hSw; (try dsimp only at hSw); go_simp; first | done | simp)
                    try simp only [Act.put, sA, sB, sC]
                    refine wT 39 { dst := some 132, op := Go.Op.pick (Go.Operand.tmp 122) (Go.Operand.tmp 131) (Go.Operand.const (Go.Value.bool false)), type := 4, pos := "law.go:168", after := #[{ on := 29, ground := Go.Ground.data }, { on := 38, ground := Go.Ground.data }, { on := 20, ground := Go.Ground.guard }], guard := some (20, false) } hHeld ?_
                    try simp only [Act.put, sA, sB, sC]
                    refine wT 40 { dst := some 133, op := Go.Op.pick (Go.Operand.tmp 113) (Go.Operand.const (Go.Value.bool true)) (Go.Operand.tmp 132), type := 4, pos := "law.go:168", after := #[{ on := 20, ground := Go.Ground.data }, { on := 39, ground := Go.Ground.data }], guard := none } hHeld ?_
                    try simp only [Act.put, sA, sB, sC]
                    refine wpAnyH_done (by kernel_rfl) ?_ _
                    clear hHeld
                    go_wp2_with fail
                    go_roundw
                    case rel => exact ⟨k + 1, by go_num, hnext.out, hid D.out.drew⟩
                    case measure => have := hnext.out; simp [intOf]; omega
              · have q1 : ¬ yi = yk := fun e => q (hs2 (.inl e))
                have q1I : ¬ ((yi : Int) = (yk : Int)) := by omega
                have q2 : ¬ (bi = true ∧ bk = true) := fun e => q (hs2 (.inr e))
                clear hs2 q
                cases bi <;> cases bk
                case false.false =>
                  go_wp2_with fail
                  refine wp_region_held_drew (S := fun (w' : World) => w'.cell? ⟨b1, o1 + i, none⟩ = some (.int .i64 (yi : Int)) ∧ w'.cell? ⟨b1, o1 + k, none⟩ = some (.int .i64 (yk : Int)) ∧ w'.cell? ⟨b3, o3 + i, none⟩ = some (.int .i64 (zi : Int)) ∧ w'.cell? ⟨b3, o3 + k, none⟩ = some (.int .i64 (zk : Int))) (by kernel_rfl) (⟨c1, c2, c3, c4⟩) (fun hHeld => ?_)
                  refine wT 0 { dst := some 93, op := Go.Op.move (Go.Operand.tmp 11), type := 25, pos := "law.go:168", after := #[], guard := none } hHeld ?_
                  try simp only [Act.put, sA, sB, sC]
                  refine wT 1 { dst := some 94, op := Go.Op.move (Go.Operand.tmp 13), type := 3, pos := "law.go:168", after := #[], guard := none } hHeld ?_
                  try simp only [Act.put, sA, sB, sC]
                  refine wT 2 { dst := some 95, op := Go.Op.indexAddr 25 (Go.Operand.tmp 93) (Go.Operand.tmp 94), type := 0, pos := "law.go:168", after := #[{ on := 0, ground := Go.Ground.data }, { on := 1, ground := Go.Ground.data }], guard := none } hHeld ?_
                  try simp only [Act.put, sA, sB, sC]
                  refine wT 3 { dst := some 96, op := Go.Op.load 3 (Go.Operand.tmp 95), type := 3, pos := "law.go:168", after := #[{ on := 2, ground := Go.Ground.data }], guard := none } hHeld ?_
                  try simp only [Act.put, sA, sB, sC]
                  refine wT 4 { dst := some 97, op := Go.Op.move (Go.Operand.tmp 11), type := 25, pos := "law.go:168", after := #[], guard := none } hHeld ?_
                  try simp only [Act.put, sA, sB, sC]
                  refine wT 5 { dst := some 98, op := Go.Op.move (Go.Operand.tmp 14), type := 3, pos := "law.go:168", after := #[], guard := none } hHeld ?_
                  try simp only [Act.put, sA, sB, sC]
                  refine wT 6 { dst := some 99, op := Go.Op.indexAddr 25 (Go.Operand.tmp 97) (Go.Operand.tmp 98), type := 0, pos := "law.go:168", after := #[{ on := 4, ground := Go.Ground.data }, { on := 5, ground := Go.Ground.data }], guard := none } hHeld ?_
                  try simp only [Act.put, sA, sB, sC]
                  refine wT 7 { dst := some 100, op := Go.Op.load 3 (Go.Operand.tmp 99), type := 3, pos := "law.go:168", after := #[{ on := 6, ground := Go.Ground.data }], guard := none } hHeld ?_
                  try simp only [Act.put, sA, sB, sC]
                  refine wT 8 { dst := some 101, op := Go.Op.binOp Go.BinOp.eql 3 (Go.Operand.tmp 96) (Go.Operand.tmp 100) 3, type := 4, pos := "law.go:168", after := #[{ on := 3, ground := Go.Ground.data }, { on := 7, ground := Go.Ground.data }], guard := none } (v := .bool false) hHeld ?_ (by intro w0 hSw; (try dsimp only at hSw); go_simp; first | done | simp [q1I] | omega)
                  try simp only [Act.put, sA, sB, sC]
                  refine wT 9 { dst := some 102, op := Go.Op.move (Go.Operand.tmp 101), type := 4, pos := "law.go:168", after := #[{ on := 8, ground := Go.Ground.data }], guard := none } hHeld ?_
                  try simp only [Act.put, sA, sB, sC]
                  refine wU 10 { dst := some 103, op := Go.Op.move (Go.Operand.tmp 12), type := 25, pos := "law.go:168", after := #[{ on := 9, ground := Go.Ground.guard }], guard := some (9, true) } hHeld ?_
                  try simp only [Act.put, sA, sB, sC]
                  refine wU 11 { dst := some 104, op := Go.Op.move (Go.Operand.tmp 13), type := 3, pos := "law.go:168", after := #[{ on := 9, ground := Go.Ground.guard }], guard := some (9, true) } hHeld ?_
                  try simp only [Act.put, sA, sB, sC]
                  refine wU 12 { dst := some 105, op := Go.Op.indexAddr 25 (Go.Operand.tmp 103) (Go.Operand.tmp 104), type := 0, pos := "law.go:168", after := #[{ on := 10, ground := Go.Ground.data }, { on := 11, ground := Go.Ground.data }, { on := 9, ground := Go.Ground.guard }], guard := some (9, true) } hHeld ?_
                  try simp only [Act.put, sA, sB, sC]
                  refine wU 13 { dst := some 106, op := Go.Op.load 3 (Go.Operand.tmp 105), type := 3, pos := "law.go:168", after := #[{ on := 12, ground := Go.Ground.data }, { on := 9, ground := Go.Ground.guard }], guard := some (9, true) } hHeld ?_
                  try simp only [Act.put, sA, sB, sC]
                  refine wU 14 { dst := some 107, op := Go.Op.move (Go.Operand.tmp 12), type := 25, pos := "law.go:168", after := #[{ on := 9, ground := Go.Ground.guard }], guard := some (9, true) } hHeld ?_
                  try simp only [Act.put, sA, sB, sC]
                  refine wU 15 { dst := some 108, op := Go.Op.move (Go.Operand.tmp 14), type := 3, pos := "law.go:168", after := #[{ on := 9, ground := Go.Ground.guard }], guard := some (9, true) } hHeld ?_
                  try simp only [Act.put, sA, sB, sC]
                  refine wU 16 { dst := some 109, op := Go.Op.indexAddr 25 (Go.Operand.tmp 107) (Go.Operand.tmp 108), type := 0, pos := "law.go:168", after := #[{ on := 14, ground := Go.Ground.data }, { on := 15, ground := Go.Ground.data }, { on := 9, ground := Go.Ground.guard }], guard := some (9, true) } hHeld ?_
                  try simp only [Act.put, sA, sB, sC]
                  refine wU 17 { dst := some 110, op := Go.Op.load 3 (Go.Operand.tmp 109), type := 3, pos := "law.go:168", after := #[{ on := 16, ground := Go.Ground.data }, { on := 9, ground := Go.Ground.guard }], guard := some (9, true) } hHeld ?_
                  try simp only [Act.put, sA, sB, sC]
                  refine wU 18 { dst := some 111, op := Go.Op.binOp Go.BinOp.neq 3 (Go.Operand.tmp 106) (Go.Operand.tmp 110) 3, type := 4, pos := "law.go:168", after := #[{ on := 13, ground := Go.Ground.data }, { on := 17, ground := Go.Ground.data }, { on := 9, ground := Go.Ground.guard }], guard := some (9, true) } hHeld ?_
                  try simp only [Act.put, sA, sB, sC]
                  refine wT 19 { dst := some 112, op := Go.Op.pick (Go.Operand.tmp 102) (Go.Operand.tmp 111) (Go.Operand.const (Go.Value.bool false)), type := 4, pos := "law.go:168", after := #[{ on := 9, ground := Go.Ground.data }, { on := 18, ground := Go.Ground.data }], guard := none } hHeld ?_
                  try simp only [Act.put, sA, sB, sC]
                  refine wT 20 { dst := some 113, op := Go.Op.move (Go.Operand.tmp 112), type := 4, pos := "law.go:168", after := #[{ on := 19, ground := Go.Ground.data }, { on := 9, ground := Go.Ground.chain }], guard := none } hHeld ?_
                  try simp only [Act.put, sA, sB, sC]
                  refine wT 21 { dst := some 114, op := Go.Op.move (Go.Operand.tmp 2), type := 23, pos := "law.go:168", after := #[{ on := 20, ground := Go.Ground.guard }], guard := some (20, false) } hHeld ?_
                  try simp only [Act.put, sA, sB, sC]
                  refine wT 22 { dst := some 115, op := Go.Op.move (Go.Operand.tmp 13), type := 3, pos := "law.go:168", after := #[{ on := 20, ground := Go.Ground.guard }], guard := some (20, false) } hHeld ?_
                  try simp only [Act.put, sA, sB, sC]
                  refine wO 23 { dst := some 116, op := Go.Op.call { callee := Go.Callee.value (Go.Operand.func 11), args := #[Go.Operand.tmp 114, Go.Operand.tmp 115], argTypes := #[23, 3] }, type := 4, pos := "law.go:168", after := #[{ on := 21, ground := Go.Ground.data }, { on := 22, ground := Go.Ground.data }, { on := 20, ground := Go.Ground.chain }, { on := 20, ground := Go.Ground.guard }], guard := some (20, false) } (fun K' hK' => ?_)
                  go_simp
                  go_at_call 11
                  refine Calls.mono (CI.out _) ?_
                  rintro _ w8 ⟨rfl, rfl⟩
                  have hz := hid hHeld
                  refine hK'.out _ _ hz.out (fun hHeld => ?_)
                  clear hK' K'
                  try simp only [Act.put, sA, sB, sC]
                  refine wT 24 { dst := some 117, op := Go.Op.move (Go.Operand.tmp 116), type := 4, pos := "law.go:168", after := #[{ on := 23, ground := Go.Ground.data }, { on := 23, ground := Go.Ground.chain }, { on := 20, ground := Go.Ground.guard }], guard := some (20, false) } hHeld ?_
                  try simp only [Act.put, sA, sB, sC]
                  refine wU 25 { dst := some 118, op := Go.Op.move (Go.Operand.tmp 2), type := 23, pos := "law.go:168", after := #[{ on := 24, ground := Go.Ground.guard }], guard := some (24, true) } hHeld ?_
                  try simp only [Act.put, sA, sB, sC]
                  refine wU 26 { dst := some 119, op := Go.Op.move (Go.Operand.tmp 14), type := 3, pos := "law.go:168", after := #[{ on := 24, ground := Go.Ground.guard }], guard := some (24, true) } hHeld ?_
                  try simp only [Act.put, sA, sB, sC]
                  refine wU 27 { dst := some 120, op := Go.Op.call { callee := Go.Callee.value (Go.Operand.func 11), args := #[Go.Operand.tmp 118, Go.Operand.tmp 119], argTypes := #[23, 3] }, type := 4, pos := "law.go:168", after := #[{ on := 25, ground := Go.Ground.data }, { on := 26, ground := Go.Ground.data }, { on := 24, ground := Go.Ground.chain }, { on := 24, ground := Go.Ground.guard }], guard := some (24, true) } hHeld ?_
                  try simp only [Act.put, sA, sB, sC]
                  refine wT 28 { dst := some 121, op := Go.Op.pick (Go.Operand.tmp 117) (Go.Operand.tmp 120) (Go.Operand.const (Go.Value.bool false)), type := 4, pos := "law.go:168", after := #[{ on := 24, ground := Go.Ground.data }, { on := 27, ground := Go.Ground.data }, { on := 20, ground := Go.Ground.guard }], guard := some (20, false) } hHeld ?_
                  try simp only [Act.put, sA, sB, sC]
                  refine wT 29 { dst := some 122, op := Go.Op.move (Go.Operand.tmp 121), type := 4, pos := "law.go:168", after := #[{ on := 28, ground := Go.Ground.data }, { on := 27, ground := Go.Ground.chain }, { on := 20, ground := Go.Ground.guard }], guard := some (20, false) } hHeld ?_
                  try simp only [Act.put, sA, sB, sC]
                  refine wU 30 { dst := some 123, op := Go.Op.move (Go.Operand.tmp 12), type := 25, pos := "law.go:168", after := #[{ on := 29, ground := Go.Ground.guard }], guard := some (29, true) } hHeld ?_
                  try simp only [Act.put, sA, sB, sC]
                  refine wU 31 { dst := some 124, op := Go.Op.move (Go.Operand.tmp 13), type := 3, pos := "law.go:168", after := #[{ on := 29, ground := Go.Ground.guard }], guard := some (29, true) } hHeld ?_
                  try simp only [Act.put, sA, sB, sC]
                  refine wU 32 { dst := some 125, op := Go.Op.indexAddr 25 (Go.Operand.tmp 123) (Go.Operand.tmp 124), type := 0, pos := "law.go:168", after := #[{ on := 30, ground := Go.Ground.data }, { on := 31, ground := Go.Ground.data }, { on := 29, ground := Go.Ground.guard }], guard := some (29, true) } hHeld ?_
                  try simp only [Act.put, sA, sB, sC]
                  refine wU 33 { dst := some 126, op := Go.Op.load 3 (Go.Operand.tmp 125), type := 3, pos := "law.go:168", after := #[{ on := 32, ground := Go.Ground.data }, { on := 29, ground := Go.Ground.guard }], guard := some (29, true) } hHeld ?_
                  try simp only [Act.put, sA, sB, sC]
                  refine wU 34 { dst := some 127, op := Go.Op.move (Go.Operand.tmp 12), type := 25, pos := "law.go:168", after := #[{ on := 29, ground := Go.Ground.guard }], guard := some (29, true) } hHeld ?_
                  try simp only [Act.put, sA, sB, sC]
                  refine wU 35 { dst := some 128, op := Go.Op.move (Go.Operand.tmp 14), type := 3, pos := "law.go:168", after := #[{ on := 29, ground := Go.Ground.guard }], guard := some (29, true) } hHeld ?_
                  try simp only [Act.put, sA, sB, sC]
                  refine wU 36 { dst := some 129, op := Go.Op.indexAddr 25 (Go.Operand.tmp 127) (Go.Operand.tmp 128), type := 0, pos := "law.go:168", after := #[{ on := 34, ground := Go.Ground.data }, { on := 35, ground := Go.Ground.data }, { on := 29, ground := Go.Ground.guard }], guard := some (29, true) } hHeld ?_
                  try simp only [Act.put, sA, sB, sC]
                  refine wU 37 { dst := some 130, op := Go.Op.load 3 (Go.Operand.tmp 129), type := 3, pos := "law.go:168", after := #[{ on := 36, ground := Go.Ground.data }, { on := 29, ground := Go.Ground.guard }], guard := some (29, true) } hHeld ?_
                  try simp only [Act.put, sA, sB, sC]
                  refine wU 38 { dst := some 131, op := Go.Op.binOp Go.BinOp.neq 3 (Go.Operand.tmp 126) (Go.Operand.tmp 130) 3, type := 4, pos := "law.go:168", after := #[{ on := 33, ground := Go.Ground.data }, { on := 37, ground := Go.Ground.data }, { on := 29, ground := Go.Ground.guard }], guard := some (29, true) } hHeld ?_
                  try simp only [Act.put, sA, sB, sC]
                  refine wT 39 { dst := some 132, op := Go.Op.pick (Go.Operand.tmp 122) (Go.Operand.tmp 131) (Go.Operand.const (Go.Value.bool false)), type := 4, pos := "law.go:168", after := #[{ on := 29, ground := Go.Ground.data }, { on := 38, ground := Go.Ground.data }, { on := 20, ground := Go.Ground.guard }], guard := some (20, false) } hHeld ?_
                  try simp only [Act.put, sA, sB, sC]
                  refine wT 40 { dst := some 133, op := Go.Op.pick (Go.Operand.tmp 113) (Go.Operand.const (Go.Value.bool true)) (Go.Operand.tmp 132), type := 4, pos := "law.go:168", after := #[{ on := 20, ground := Go.Ground.data }, { on := 39, ground := Go.Ground.data }], guard := none } hHeld ?_
                  try simp only [Act.put, sA, sB, sC]
                  refine wpAnyH_done (by kernel_rfl) ?_ _
                  clear hHeld
                  go_wp2_with fail
                  go_roundw
                  case rel => exact ⟨k + 1, by go_num, hnext.out, hid D.out.drew⟩
                  case measure => have := hnext.out; simp [intOf]; omega
                case false.true =>
                  go_wp2_with fail
                  refine wp_region_held_drew (S := fun (w' : World) => w'.cell? ⟨b1, o1 + i, none⟩ = some (.int .i64 (yi : Int)) ∧ w'.cell? ⟨b1, o1 + k, none⟩ = some (.int .i64 (yk : Int)) ∧ w'.cell? ⟨b3, o3 + i, none⟩ = some (.int .i64 (zi : Int)) ∧ w'.cell? ⟨b3, o3 + k, none⟩ = some (.int .i64 (zk : Int))) (by kernel_rfl) (⟨c1, c2, c3, c4⟩) (fun hHeld => ?_)
                  refine wT 0 { dst := some 93, op := Go.Op.move (Go.Operand.tmp 11), type := 25, pos := "law.go:168", after := #[], guard := none } hHeld ?_
                  try simp only [Act.put, sA, sB, sC]
                  refine wT 1 { dst := some 94, op := Go.Op.move (Go.Operand.tmp 13), type := 3, pos := "law.go:168", after := #[], guard := none } hHeld ?_
                  try simp only [Act.put, sA, sB, sC]
                  refine wT 2 { dst := some 95, op := Go.Op.indexAddr 25 (Go.Operand.tmp 93) (Go.Operand.tmp 94), type := 0, pos := "law.go:168", after := #[{ on := 0, ground := Go.Ground.data }, { on := 1, ground := Go.Ground.data }], guard := none } hHeld ?_
                  try simp only [Act.put, sA, sB, sC]
                  refine wT 3 { dst := some 96, op := Go.Op.load 3 (Go.Operand.tmp 95), type := 3, pos := "law.go:168", after := #[{ on := 2, ground := Go.Ground.data }], guard := none } hHeld ?_
                  try simp only [Act.put, sA, sB, sC]
                  refine wT 4 { dst := some 97, op := Go.Op.move (Go.Operand.tmp 11), type := 25, pos := "law.go:168", after := #[], guard := none } hHeld ?_
                  try simp only [Act.put, sA, sB, sC]
                  refine wT 5 { dst := some 98, op := Go.Op.move (Go.Operand.tmp 14), type := 3, pos := "law.go:168", after := #[], guard := none } hHeld ?_
                  try simp only [Act.put, sA, sB, sC]
                  refine wT 6 { dst := some 99, op := Go.Op.indexAddr 25 (Go.Operand.tmp 97) (Go.Operand.tmp 98), type := 0, pos := "law.go:168", after := #[{ on := 4, ground := Go.Ground.data }, { on := 5, ground := Go.Ground.data }], guard := none } hHeld ?_
                  try simp only [Act.put, sA, sB, sC]
                  refine wT 7 { dst := some 100, op := Go.Op.load 3 (Go.Operand.tmp 99), type := 3, pos := "law.go:168", after := #[{ on := 6, ground := Go.Ground.data }], guard := none } hHeld ?_
                  try simp only [Act.put, sA, sB, sC]
                  refine wT 8 { dst := some 101, op := Go.Op.binOp Go.BinOp.eql 3 (Go.Operand.tmp 96) (Go.Operand.tmp 100) 3, type := 4, pos := "law.go:168", after := #[{ on := 3, ground := Go.Ground.data }, { on := 7, ground := Go.Ground.data }], guard := none } (v := .bool false) hHeld ?_ (by intro w0 hSw; (try dsimp only at hSw); go_simp; first | done | simp [q1I] | omega)
                  try simp only [Act.put, sA, sB, sC]
                  refine wT 9 { dst := some 102, op := Go.Op.move (Go.Operand.tmp 101), type := 4, pos := "law.go:168", after := #[{ on := 8, ground := Go.Ground.data }], guard := none } hHeld ?_
                  try simp only [Act.put, sA, sB, sC]
                  refine wU 10 { dst := some 103, op := Go.Op.move (Go.Operand.tmp 12), type := 25, pos := "law.go:168", after := #[{ on := 9, ground := Go.Ground.guard }], guard := some (9, true) } hHeld ?_
                  try simp only [Act.put, sA, sB, sC]
                  refine wU 11 { dst := some 104, op := Go.Op.move (Go.Operand.tmp 13), type := 3, pos := "law.go:168", after := #[{ on := 9, ground := Go.Ground.guard }], guard := some (9, true) } hHeld ?_
                  try simp only [Act.put, sA, sB, sC]
                  refine wU 12 { dst := some 105, op := Go.Op.indexAddr 25 (Go.Operand.tmp 103) (Go.Operand.tmp 104), type := 0, pos := "law.go:168", after := #[{ on := 10, ground := Go.Ground.data }, { on := 11, ground := Go.Ground.data }, { on := 9, ground := Go.Ground.guard }], guard := some (9, true) } hHeld ?_
                  try simp only [Act.put, sA, sB, sC]
                  refine wU 13 { dst := some 106, op := Go.Op.load 3 (Go.Operand.tmp 105), type := 3, pos := "law.go:168", after := #[{ on := 12, ground := Go.Ground.data }, { on := 9, ground := Go.Ground.guard }], guard := some (9, true) } hHeld ?_
                  try simp only [Act.put, sA, sB, sC]
                  refine wU 14 { dst := some 107, op := Go.Op.move (Go.Operand.tmp 12), type := 25, pos := "law.go:168", after := #[{ on := 9, ground := Go.Ground.guard }], guard := some (9, true) } hHeld ?_
                  try simp only [Act.put, sA, sB, sC]
                  refine wU 15 { dst := some 108, op := Go.Op.move (Go.Operand.tmp 14), type := 3, pos := "law.go:168", after := #[{ on := 9, ground := Go.Ground.guard }], guard := some (9, true) } hHeld ?_
                  try simp only [Act.put, sA, sB, sC]
                  refine wU 16 { dst := some 109, op := Go.Op.indexAddr 25 (Go.Operand.tmp 107) (Go.Operand.tmp 108), type := 0, pos := "law.go:168", after := #[{ on := 14, ground := Go.Ground.data }, { on := 15, ground := Go.Ground.data }, { on := 9, ground := Go.Ground.guard }], guard := some (9, true) } hHeld ?_
                  try simp only [Act.put, sA, sB, sC]
                  refine wU 17 { dst := some 110, op := Go.Op.load 3 (Go.Operand.tmp 109), type := 3, pos := "law.go:168", after := #[{ on := 16, ground := Go.Ground.data }, { on := 9, ground := Go.Ground.guard }], guard := some (9, true) } hHeld ?_
                  try simp only [Act.put, sA, sB, sC]
                  refine wU 18 { dst := some 111, op := Go.Op.binOp Go.BinOp.neq 3 (Go.Operand.tmp 106) (Go.Operand.tmp 110) 3, type := 4, pos := "law.go:168", after := #[{ on := 13, ground := Go.Ground.data }, { on := 17, ground := Go.Ground.data }, { on := 9, ground := Go.Ground.guard }], guard := some (9, true) } hHeld ?_
                  try simp only [Act.put, sA, sB, sC]
                  refine wT 19 { dst := some 112, op := Go.Op.pick (Go.Operand.tmp 102) (Go.Operand.tmp 111) (Go.Operand.const (Go.Value.bool false)), type := 4, pos := "law.go:168", after := #[{ on := 9, ground := Go.Ground.data }, { on := 18, ground := Go.Ground.data }], guard := none } hHeld ?_
                  try simp only [Act.put, sA, sB, sC]
                  refine wT 20 { dst := some 113, op := Go.Op.move (Go.Operand.tmp 112), type := 4, pos := "law.go:168", after := #[{ on := 19, ground := Go.Ground.data }, { on := 9, ground := Go.Ground.chain }], guard := none } hHeld ?_
                  try simp only [Act.put, sA, sB, sC]
                  refine wT 21 { dst := some 114, op := Go.Op.move (Go.Operand.tmp 2), type := 23, pos := "law.go:168", after := #[{ on := 20, ground := Go.Ground.guard }], guard := some (20, false) } hHeld ?_
                  try simp only [Act.put, sA, sB, sC]
                  refine wT 22 { dst := some 115, op := Go.Op.move (Go.Operand.tmp 13), type := 3, pos := "law.go:168", after := #[{ on := 20, ground := Go.Ground.guard }], guard := some (20, false) } hHeld ?_
                  try simp only [Act.put, sA, sB, sC]
                  refine wO 23 { dst := some 116, op := Go.Op.call { callee := Go.Callee.value (Go.Operand.func 11), args := #[Go.Operand.tmp 114, Go.Operand.tmp 115], argTypes := #[23, 3] }, type := 4, pos := "law.go:168", after := #[{ on := 21, ground := Go.Ground.data }, { on := 22, ground := Go.Ground.data }, { on := 20, ground := Go.Ground.chain }, { on := 20, ground := Go.Ground.guard }], guard := some (20, false) } (fun K' hK' => ?_)
                  go_simp
                  go_at_call 11
                  refine Calls.mono (CI.out _) ?_
                  rintro _ w8 ⟨rfl, rfl⟩
                  have hz := hid hHeld
                  refine hK'.out _ _ hz.out (fun hHeld => ?_)
                  clear hK' K'
                  try simp only [Act.put, sA, sB, sC]
                  refine wT 24 { dst := some 117, op := Go.Op.move (Go.Operand.tmp 116), type := 4, pos := "law.go:168", after := #[{ on := 23, ground := Go.Ground.data }, { on := 23, ground := Go.Ground.chain }, { on := 20, ground := Go.Ground.guard }], guard := some (20, false) } hHeld ?_
                  try simp only [Act.put, sA, sB, sC]
                  refine wU 25 { dst := some 118, op := Go.Op.move (Go.Operand.tmp 2), type := 23, pos := "law.go:168", after := #[{ on := 24, ground := Go.Ground.guard }], guard := some (24, true) } hHeld ?_
                  try simp only [Act.put, sA, sB, sC]
                  refine wU 26 { dst := some 119, op := Go.Op.move (Go.Operand.tmp 14), type := 3, pos := "law.go:168", after := #[{ on := 24, ground := Go.Ground.guard }], guard := some (24, true) } hHeld ?_
                  try simp only [Act.put, sA, sB, sC]
                  refine wU 27 { dst := some 120, op := Go.Op.call { callee := Go.Callee.value (Go.Operand.func 11), args := #[Go.Operand.tmp 118, Go.Operand.tmp 119], argTypes := #[23, 3] }, type := 4, pos := "law.go:168", after := #[{ on := 25, ground := Go.Ground.data }, { on := 26, ground := Go.Ground.data }, { on := 24, ground := Go.Ground.chain }, { on := 24, ground := Go.Ground.guard }], guard := some (24, true) } hHeld ?_
                  try simp only [Act.put, sA, sB, sC]
                  refine wT 28 { dst := some 121, op := Go.Op.pick (Go.Operand.tmp 117) (Go.Operand.tmp 120) (Go.Operand.const (Go.Value.bool false)), type := 4, pos := "law.go:168", after := #[{ on := 24, ground := Go.Ground.data }, { on := 27, ground := Go.Ground.data }, { on := 20, ground := Go.Ground.guard }], guard := some (20, false) } hHeld ?_
                  try simp only [Act.put, sA, sB, sC]
                  refine wT 29 { dst := some 122, op := Go.Op.move (Go.Operand.tmp 121), type := 4, pos := "law.go:168", after := #[{ on := 28, ground := Go.Ground.data }, { on := 27, ground := Go.Ground.chain }, { on := 20, ground := Go.Ground.guard }], guard := some (20, false) } hHeld ?_
                  try simp only [Act.put, sA, sB, sC]
                  refine wU 30 { dst := some 123, op := Go.Op.move (Go.Operand.tmp 12), type := 25, pos := "law.go:168", after := #[{ on := 29, ground := Go.Ground.guard }], guard := some (29, true) } hHeld ?_
                  try simp only [Act.put, sA, sB, sC]
                  refine wU 31 { dst := some 124, op := Go.Op.move (Go.Operand.tmp 13), type := 3, pos := "law.go:168", after := #[{ on := 29, ground := Go.Ground.guard }], guard := some (29, true) } hHeld ?_
                  try simp only [Act.put, sA, sB, sC]
                  refine wU 32 { dst := some 125, op := Go.Op.indexAddr 25 (Go.Operand.tmp 123) (Go.Operand.tmp 124), type := 0, pos := "law.go:168", after := #[{ on := 30, ground := Go.Ground.data }, { on := 31, ground := Go.Ground.data }, { on := 29, ground := Go.Ground.guard }], guard := some (29, true) } hHeld ?_
                  try simp only [Act.put, sA, sB, sC]
                  refine wU 33 { dst := some 126, op := Go.Op.load 3 (Go.Operand.tmp 125), type := 3, pos := "law.go:168", after := #[{ on := 32, ground := Go.Ground.data }, { on := 29, ground := Go.Ground.guard }], guard := some (29, true) } hHeld ?_
                  try simp only [Act.put, sA, sB, sC]
                  refine wU 34 { dst := some 127, op := Go.Op.move (Go.Operand.tmp 12), type := 25, pos := "law.go:168", after := #[{ on := 29, ground := Go.Ground.guard }], guard := some (29, true) } hHeld ?_
                  try simp only [Act.put, sA, sB, sC]
                  refine wU 35 { dst := some 128, op := Go.Op.move (Go.Operand.tmp 14), type := 3, pos := "law.go:168", after := #[{ on := 29, ground := Go.Ground.guard }], guard := some (29, true) } hHeld ?_
                  try simp only [Act.put, sA, sB, sC]
                  refine wU 36 { dst := some 129, op := Go.Op.indexAddr 25 (Go.Operand.tmp 127) (Go.Operand.tmp 128), type := 0, pos := "law.go:168", after := #[{ on := 34, ground := Go.Ground.data }, { on := 35, ground := Go.Ground.data }, { on := 29, ground := Go.Ground.guard }], guard := some (29, true) } hHeld ?_
                  try simp only [Act.put, sA, sB, sC]
                  refine wU 37 { dst := some 130, op := Go.Op.load 3 (Go.Operand.tmp 129), type := 3, pos := "law.go:168", after := #[{ on := 36, ground := Go.Ground.data }, { on := 29, ground := Go.Ground.guard }], guard := some (29, true) } hHeld ?_
                  try simp only [Act.put, sA, sB, sC]
                  refine wU 38 { dst := some 131, op := Go.Op.binOp Go.BinOp.neq 3 (Go.Operand.tmp 126) (Go.Operand.tmp 130) 3, type := 4, pos := "law.go:168", after := #[{ on := 33, ground := Go.Ground.data }, { on := 37, ground := Go.Ground.data }, { on := 29, ground := Go.Ground.guard }], guard := some (29, true) } hHeld ?_
                  try simp only [Act.put, sA, sB, sC]
                  refine wT 39 { dst := some 132, op := Go.Op.pick (Go.Operand.tmp 122) (Go.Operand.tmp 131) (Go.Operand.const (Go.Value.bool false)), type := 4, pos := "law.go:168", after := #[{ on := 29, ground := Go.Ground.data }, { on := 38, ground := Go.Ground.data }, { on := 20, ground := Go.Ground.guard }], guard := some (20, false) } hHeld ?_
                  try simp only [Act.put, sA, sB, sC]
                  refine wT 40 { dst := some 133, op := Go.Op.pick (Go.Operand.tmp 113) (Go.Operand.const (Go.Value.bool true)) (Go.Operand.tmp 132), type := 4, pos := "law.go:168", after := #[{ on := 20, ground := Go.Ground.data }, { on := 39, ground := Go.Ground.data }], guard := none } hHeld ?_
                  try simp only [Act.put, sA, sB, sC]
                  refine wpAnyH_done (by kernel_rfl) ?_ _
                  clear hHeld
                  go_wp2_with fail
                  go_roundw
                  case rel => exact ⟨k + 1, by go_num, hnext.out, hid D.out.drew⟩
                  case measure => have := hnext.out; simp [intOf]; omega
                case true.false =>
                  go_wp2_with fail
                  refine wp_region_held_drew (S := fun (w' : World) => w'.cell? ⟨b1, o1 + i, none⟩ = some (.int .i64 (yi : Int)) ∧ w'.cell? ⟨b1, o1 + k, none⟩ = some (.int .i64 (yk : Int)) ∧ w'.cell? ⟨b3, o3 + i, none⟩ = some (.int .i64 (zi : Int)) ∧ w'.cell? ⟨b3, o3 + k, none⟩ = some (.int .i64 (zk : Int))) (by kernel_rfl) (⟨c1, c2, c3, c4⟩) (fun hHeld => ?_)
                  refine wT 0 { dst := some 93, op := Go.Op.move (Go.Operand.tmp 11), type := 25, pos := "law.go:168", after := #[], guard := none } hHeld ?_
                  try simp only [Act.put, sA, sB, sC]
                  refine wT 1 { dst := some 94, op := Go.Op.move (Go.Operand.tmp 13), type := 3, pos := "law.go:168", after := #[], guard := none } hHeld ?_
                  try simp only [Act.put, sA, sB, sC]
                  refine wT 2 { dst := some 95, op := Go.Op.indexAddr 25 (Go.Operand.tmp 93) (Go.Operand.tmp 94), type := 0, pos := "law.go:168", after := #[{ on := 0, ground := Go.Ground.data }, { on := 1, ground := Go.Ground.data }], guard := none } hHeld ?_
                  try simp only [Act.put, sA, sB, sC]
                  refine wT 3 { dst := some 96, op := Go.Op.load 3 (Go.Operand.tmp 95), type := 3, pos := "law.go:168", after := #[{ on := 2, ground := Go.Ground.data }], guard := none } hHeld ?_
                  try simp only [Act.put, sA, sB, sC]
                  refine wT 4 { dst := some 97, op := Go.Op.move (Go.Operand.tmp 11), type := 25, pos := "law.go:168", after := #[], guard := none } hHeld ?_
                  try simp only [Act.put, sA, sB, sC]
                  refine wT 5 { dst := some 98, op := Go.Op.move (Go.Operand.tmp 14), type := 3, pos := "law.go:168", after := #[], guard := none } hHeld ?_
                  try simp only [Act.put, sA, sB, sC]
                  refine wT 6 { dst := some 99, op := Go.Op.indexAddr 25 (Go.Operand.tmp 97) (Go.Operand.tmp 98), type := 0, pos := "law.go:168", after := #[{ on := 4, ground := Go.Ground.data }, { on := 5, ground := Go.Ground.data }], guard := none } hHeld ?_
                  try simp only [Act.put, sA, sB, sC]
                  refine wT 7 { dst := some 100, op := Go.Op.load 3 (Go.Operand.tmp 99), type := 3, pos := "law.go:168", after := #[{ on := 6, ground := Go.Ground.data }], guard := none } hHeld ?_
                  try simp only [Act.put, sA, sB, sC]
                  refine wT 8 { dst := some 101, op := Go.Op.binOp Go.BinOp.eql 3 (Go.Operand.tmp 96) (Go.Operand.tmp 100) 3, type := 4, pos := "law.go:168", after := #[{ on := 3, ground := Go.Ground.data }, { on := 7, ground := Go.Ground.data }], guard := none } (v := .bool false) hHeld ?_ (by intro w0 hSw; (try dsimp only at hSw); go_simp; first | done | simp [q1I] | omega)
                  try simp only [Act.put, sA, sB, sC]
                  refine wT 9 { dst := some 102, op := Go.Op.move (Go.Operand.tmp 101), type := 4, pos := "law.go:168", after := #[{ on := 8, ground := Go.Ground.data }], guard := none } hHeld ?_
                  try simp only [Act.put, sA, sB, sC]
                  refine wU 10 { dst := some 103, op := Go.Op.move (Go.Operand.tmp 12), type := 25, pos := "law.go:168", after := #[{ on := 9, ground := Go.Ground.guard }], guard := some (9, true) } hHeld ?_
                  try simp only [Act.put, sA, sB, sC]
                  refine wU 11 { dst := some 104, op := Go.Op.move (Go.Operand.tmp 13), type := 3, pos := "law.go:168", after := #[{ on := 9, ground := Go.Ground.guard }], guard := some (9, true) } hHeld ?_
                  try simp only [Act.put, sA, sB, sC]
                  refine wU 12 { dst := some 105, op := Go.Op.indexAddr 25 (Go.Operand.tmp 103) (Go.Operand.tmp 104), type := 0, pos := "law.go:168", after := #[{ on := 10, ground := Go.Ground.data }, { on := 11, ground := Go.Ground.data }, { on := 9, ground := Go.Ground.guard }], guard := some (9, true) } hHeld ?_
                  try simp only [Act.put, sA, sB, sC]
                  refine wU 13 { dst := some 106, op := Go.Op.load 3 (Go.Operand.tmp 105), type := 3, pos := "law.go:168", after := #[{ on := 12, ground := Go.Ground.data }, { on := 9, ground := Go.Ground.guard }], guard := some (9, true) } hHeld ?_
                  try simp only [Act.put, sA, sB, sC]
                  refine wU 14 { dst := some 107, op := Go.Op.move (Go.Operand.tmp 12), type := 25, pos := "law.go:168", after := #[{ on := 9, ground := Go.Ground.guard }], guard := some (9, true) } hHeld ?_
                  try simp only [Act.put, sA, sB, sC]
                  refine wU 15 { dst := some 108, op := Go.Op.move (Go.Operand.tmp 14), type := 3, pos := "law.go:168", after := #[{ on := 9, ground := Go.Ground.guard }], guard := some (9, true) } hHeld ?_
                  try simp only [Act.put, sA, sB, sC]
                  refine wU 16 { dst := some 109, op := Go.Op.indexAddr 25 (Go.Operand.tmp 107) (Go.Operand.tmp 108), type := 0, pos := "law.go:168", after := #[{ on := 14, ground := Go.Ground.data }, { on := 15, ground := Go.Ground.data }, { on := 9, ground := Go.Ground.guard }], guard := some (9, true) } hHeld ?_
                  try simp only [Act.put, sA, sB, sC]
                  refine wU 17 { dst := some 110, op := Go.Op.load 3 (Go.Operand.tmp 109), type := 3, pos := "law.go:168", after := #[{ on := 16, ground := Go.Ground.data }, { on := 9, ground := Go.Ground.guard }], guard := some (9, true) } hHeld ?_
                  try simp only [Act.put, sA, sB, sC]
                  refine wU 18 { dst := some 111, op := Go.Op.binOp Go.BinOp.neq 3 (Go.Operand.tmp 106) (Go.Operand.tmp 110) 3, type := 4, pos := "law.go:168", after := #[{ on := 13, ground := Go.Ground.data }, { on := 17, ground := Go.Ground.data }, { on := 9, ground := Go.Ground.guard }], guard := some (9, true) } hHeld ?_
                  try simp only [Act.put, sA, sB, sC]
                  refine wT 19 { dst := some 112, op := Go.Op.pick (Go.Operand.tmp 102) (Go.Operand.tmp 111) (Go.Operand.const (Go.Value.bool false)), type := 4, pos := "law.go:168", after := #[{ on := 9, ground := Go.Ground.data }, { on := 18, ground := Go.Ground.data }], guard := none } hHeld ?_
                  try simp only [Act.put, sA, sB, sC]
                  refine wT 20 { dst := some 113, op := Go.Op.move (Go.Operand.tmp 112), type := 4, pos := "law.go:168", after := #[{ on := 19, ground := Go.Ground.data }, { on := 9, ground := Go.Ground.chain }], guard := none } hHeld ?_
                  try simp only [Act.put, sA, sB, sC]
                  refine wT 21 { dst := some 114, op := Go.Op.move (Go.Operand.tmp 2), type := 23, pos := "law.go:168", after := #[{ on := 20, ground := Go.Ground.guard }], guard := some (20, false) } hHeld ?_
                  try simp only [Act.put, sA, sB, sC]
                  refine wT 22 { dst := some 115, op := Go.Op.move (Go.Operand.tmp 13), type := 3, pos := "law.go:168", after := #[{ on := 20, ground := Go.Ground.guard }], guard := some (20, false) } hHeld ?_
                  try simp only [Act.put, sA, sB, sC]
                  refine wO 23 { dst := some 116, op := Go.Op.call { callee := Go.Callee.value (Go.Operand.func 11), args := #[Go.Operand.tmp 114, Go.Operand.tmp 115], argTypes := #[23, 3] }, type := 4, pos := "law.go:168", after := #[{ on := 21, ground := Go.Ground.data }, { on := 22, ground := Go.Ground.data }, { on := 20, ground := Go.Ground.chain }, { on := 20, ground := Go.Ground.guard }], guard := some (20, false) } (fun K' hK' => ?_)
                  go_simp
                  go_at_call 11
                  refine Calls.mono (CI.out _) ?_
                  rintro _ w8 ⟨rfl, rfl⟩
                  have hz := hid hHeld
                  refine hK'.out _ _ hz.out (fun hHeld => ?_)
                  clear hK' K'
                  try simp only [Act.put, sA, sB, sC]
                  refine wT 24 { dst := some 117, op := Go.Op.move (Go.Operand.tmp 116), type := 4, pos := "law.go:168", after := #[{ on := 23, ground := Go.Ground.data }, { on := 23, ground := Go.Ground.chain }, { on := 20, ground := Go.Ground.guard }], guard := some (20, false) } hHeld ?_
                  try simp only [Act.put, sA, sB, sC]
                  refine wT 25 { dst := some 118, op := Go.Op.move (Go.Operand.tmp 2), type := 23, pos := "law.go:168", after := #[{ on := 24, ground := Go.Ground.guard }], guard := some (24, true) } hHeld ?_
                  try simp only [Act.put, sA, sB, sC]
                  refine wT 26 { dst := some 119, op := Go.Op.move (Go.Operand.tmp 14), type := 3, pos := "law.go:168", after := #[{ on := 24, ground := Go.Ground.guard }], guard := some (24, true) } hHeld ?_
                  try simp only [Act.put, sA, sB, sC]
                  refine wO 27 { dst := some 120, op := Go.Op.call { callee := Go.Callee.value (Go.Operand.func 11), args := #[Go.Operand.tmp 118, Go.Operand.tmp 119], argTypes := #[23, 3] }, type := 4, pos := "law.go:168", after := #[{ on := 25, ground := Go.Ground.data }, { on := 26, ground := Go.Ground.data }, { on := 24, ground := Go.Ground.chain }, { on := 24, ground := Go.Ground.guard }], guard := some (24, true) } (fun K' hK' => ?_)
                  go_simp
                  go_at_call 11
                  refine Calls.mono (CK.out _) ?_
                  rintro _ w9 ⟨rfl, rfl⟩
                  have hz := hid hHeld
                  refine hK'.out _ _ hz.out (fun hHeld => ?_)
                  clear hK' K'
                  try simp only [Act.put, sA, sB, sC]
                  refine wT 28 { dst := some 121, op := Go.Op.pick (Go.Operand.tmp 117) (Go.Operand.tmp 120) (Go.Operand.const (Go.Value.bool false)), type := 4, pos := "law.go:168", after := #[{ on := 24, ground := Go.Ground.data }, { on := 27, ground := Go.Ground.data }, { on := 20, ground := Go.Ground.guard }], guard := some (20, false) } hHeld ?_
                  try simp only [Act.put, sA, sB, sC]
                  refine wT 29 { dst := some 122, op := Go.Op.move (Go.Operand.tmp 121), type := 4, pos := "law.go:168", after := #[{ on := 28, ground := Go.Ground.data }, { on := 27, ground := Go.Ground.chain }, { on := 20, ground := Go.Ground.guard }], guard := some (20, false) } hHeld ?_
                  try simp only [Act.put, sA, sB, sC]
                  refine wU 30 { dst := some 123, op := Go.Op.move (Go.Operand.tmp 12), type := 25, pos := "law.go:168", after := #[{ on := 29, ground := Go.Ground.guard }], guard := some (29, true) } hHeld ?_
                  try simp only [Act.put, sA, sB, sC]
                  refine wU 31 { dst := some 124, op := Go.Op.move (Go.Operand.tmp 13), type := 3, pos := "law.go:168", after := #[{ on := 29, ground := Go.Ground.guard }], guard := some (29, true) } hHeld ?_
                  try simp only [Act.put, sA, sB, sC]
                  refine wU 32 { dst := some 125, op := Go.Op.indexAddr 25 (Go.Operand.tmp 123) (Go.Operand.tmp 124), type := 0, pos := "law.go:168", after := #[{ on := 30, ground := Go.Ground.data }, { on := 31, ground := Go.Ground.data }, { on := 29, ground := Go.Ground.guard }], guard := some (29, true) } hHeld ?_
                  try simp only [Act.put, sA, sB, sC]
                  refine wU 33 { dst := some 126, op := Go.Op.load 3 (Go.Operand.tmp 125), type := 3, pos := "law.go:168", after := #[{ on := 32, ground := Go.Ground.data }, { on := 29, ground := Go.Ground.guard }], guard := some (29, true) } hHeld ?_
                  try simp only [Act.put, sA, sB, sC]
                  refine wU 34 { dst := some 127, op := Go.Op.move (Go.Operand.tmp 12), type := 25, pos := "law.go:168", after := #[{ on := 29, ground := Go.Ground.guard }], guard := some (29, true) } hHeld ?_
                  try simp only [Act.put, sA, sB, sC]
                  refine wU 35 { dst := some 128, op := Go.Op.move (Go.Operand.tmp 14), type := 3, pos := "law.go:168", after := #[{ on := 29, ground := Go.Ground.guard }], guard := some (29, true) } hHeld ?_
                  try simp only [Act.put, sA, sB, sC]
                  refine wU 36 { dst := some 129, op := Go.Op.indexAddr 25 (Go.Operand.tmp 127) (Go.Operand.tmp 128), type := 0, pos := "law.go:168", after := #[{ on := 34, ground := Go.Ground.data }, { on := 35, ground := Go.Ground.data }, { on := 29, ground := Go.Ground.guard }], guard := some (29, true) } hHeld ?_
                  try simp only [Act.put, sA, sB, sC]
                  refine wU 37 { dst := some 130, op := Go.Op.load 3 (Go.Operand.tmp 129), type := 3, pos := "law.go:168", after := #[{ on := 36, ground := Go.Ground.data }, { on := 29, ground := Go.Ground.guard }], guard := some (29, true) } hHeld ?_
                  try simp only [Act.put, sA, sB, sC]
                  refine wU 38 { dst := some 131, op := Go.Op.binOp Go.BinOp.neq 3 (Go.Operand.tmp 126) (Go.Operand.tmp 130) 3, type := 4, pos := "law.go:168", after := #[{ on := 33, ground := Go.Ground.data }, { on := 37, ground := Go.Ground.data }, { on := 29, ground := Go.Ground.guard }], guard := some (29, true) } hHeld ?_
                  try simp only [Act.put, sA, sB, sC]
                  refine wT 39 { dst := some 132, op := Go.Op.pick (Go.Operand.tmp 122) (Go.Operand.tmp 131) (Go.Operand.const (Go.Value.bool false)), type := 4, pos := "law.go:168", after := #[{ on := 29, ground := Go.Ground.data }, { on := 38, ground := Go.Ground.data }, { on := 20, ground := Go.Ground.guard }], guard := some (20, false) } hHeld ?_
                  try simp only [Act.put, sA, sB, sC]
                  refine wT 40 { dst := some 133, op := Go.Op.pick (Go.Operand.tmp 113) (Go.Operand.const (Go.Value.bool true)) (Go.Operand.tmp 132), type := 4, pos := "law.go:168", after := #[{ on := 20, ground := Go.Ground.data }, { on := 39, ground := Go.Ground.data }], guard := none } hHeld ?_
                  try simp only [Act.put, sA, sB, sC]
                  refine wpAnyH_done (by kernel_rfl) ?_ _
                  clear hHeld
                  go_wp2_with fail
                  go_roundw
                  case rel => exact ⟨k + 1, by go_num, hnext.out, hid D.out.drew⟩
                  case measure => have := hnext.out; simp [intOf]; omega
                case true.true => exact absurd ⟨rfl, rfl⟩ q2

            · have e : k = n := by omega
              subst e
              clear HA HB HS CH es0 hsI
              go_wp2_with fail
              go_roundw
              case rel => exact ⟨i + 1, by go_num, by omega, D⟩
              case measure => simp [intOf]; omega
        · have e : i = n := by omega
          subst e
          have BE := Ba.out.trans (D.out.mono Ba.out.size)
          clear HA HB HS CH es0 hsI
          go_wp2_with fail
          go_ret
          exact ⟨rfl, BE⟩
end Go.Proofs.YtdpbapoahfggeaaDoor
