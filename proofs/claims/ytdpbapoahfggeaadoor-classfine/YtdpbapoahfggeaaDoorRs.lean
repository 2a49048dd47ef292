/- The contract of the document's Split. -/
import Derived.Test.YtdpbapoahfggeaaDoorMt
namespace Go.Proofs.YtdpbapoahfggeaaDoor
open Go.ChangeShapes Go.WideShapes Go.ChangeAt Go.RowKit Go.Deep
set_option linter.unusedVariables false
set_option linter.unusedSimpArgs false

theorem own_var {w : World} {base : Nat} {v : Value} {n : Nat} {l : List Nat} (h : w.ownsRow base 3 1 v n (cellsI l)) (hn : 0 < n) :
    ∃ g cap rest, v = .slice (some ⟨g, 0, none⟩) n cap ∧ base ≤ g ∧ VarAt w g (cellsI l ++ rest) 3 := by
  rcases h.2 with ⟨_, q⟩ | ⟨g, cap, cur, q1, q2, q3, q4, q5, q6, q7⟩
  · omega
  · refine ⟨g, cap, cur.toList.drop (n * 1), q1, q2, ?_⟩
    rw [← q7, List.take_append_drop]
    exact q3
theorem VarAt.intR2 {w : World} {b : Nat} {l : List Nat} {rest : List Value} {t : TypeId} (h : VarAt w b (cellsI l ++ rest) t) (c : Nat) (hl : l.length ≤ 9223372036854775807) : IntR w (.slice (some ⟨b, 0, none⟩) l.length c) l :=
  ⟨_, c, by rw [List.length_map], by simpa using hl, fun i u hu => ⟨b, 0, rfl, h.lt, by
    have hi : i < (cellsI l).length := by have := (List.getElem?_eq_some_iff.1 hu).1; simpa [cellsI] using this
    rw [Nat.zero_add]
    exact h.cell i (by rw [List.getElem?_append_left hi]; exact hu)⟩⟩
theorem out_at {l : List Nat} {rest : List Value} {j : Nat} (h : j < l.length) : (cellsI l ++ rest)[j]? = some (.int .i64 ((l.getD j 0 : Nat) : Int)) := by
  rw [List.getElem?_append_left (by rw [cellsI_len]; exact h)]
  exact cellsI_at h
theorem out_set (l : List Nat) (rest : List Value) {j : Nat} (h : j < l.length) (v : Nat) : (cellsI l ++ rest).set j (.int .i64 (v : Int)) = cellsI (l.set j v) ++ rest := by
  rw [List.set_append_left _ _ (by rw [cellsI_len]; exact h), cellsI_set]

structure RsW (w : World) (v0 v1 v2 : Value) (g : Nat) (rest : List Value) (l : List Nat) (X : World) : Prop where
  b0 : VarAt X w.heap.size [v0, v1, v2] 29
  bo : VarAt X g (cellsI l ++ rest) 3
  bel : Below w.heap.size w X
  lo : w.heap.size + 1 ≤ g
theorem RsW.kept {w : World} {v0 v1 v2 : Value} {g : Nat} {rest : List Value} {l : List Nat} {X X' : World} (h : RsW w v0 v1 v2 g rest l X) (k : Below X.heap.size X X') : RsW w v0 v1 v2 g rest l X' := ⟨h.b0.kept k, h.bo.kept k, h.bel.trans (k.mono h.bel.size), h.lo⟩
theorem RsW.put {w : World} {v0 v1 v2 : Value} {g : Nat} {rest : List Value} {l : List Nat} {X : World} (h : RsW w v0 v1 v2 g rest l X) {k : Nat} (hk : k < l.length) (v : Nat) : RsW w v0 v1 v2 g rest (l.set k v) (X.setCell ⟨g, k, none⟩ (.int .i64 (v : Int))) := by
  have t : Touch (fun i => i = g) X (X.setCell ⟨g, k, none⟩ (.int .i64 (v : Int))) := Touch.setCell _ _ _ rfl
  refine ⟨h.b0.touch t (by have := h.lo; omega), ?_, below_touch h.bel t (fun i hi => by have := h.lo; omega), h.lo⟩
  rw [← out_set l rest hk]
  exact h.bo.set k _

set_option maxRecDepth 100000 in
set_option maxHeartbeats 1000000 in
theorem rsplit_any (n : Nat) (hn : n ≤ 64) (v0 v1 v2 : Value) (S : List (List Nat)) (l1 : List Nat) (F : List (List Nat)) (w : World) (h0 : RowsR w v0 S) (h1 : NumR w v1 l1) (h2 : RowsR w v2 F)
    (sS : Sm64 S) (s1 : Sm64 [l1]) (sF : Sm64 F) (nS : S.length ≤ 1000) (nF : F.length ≤ 1000) :
    Calls Tryd.prog 10 #[.int .i64 (n : Int), .agg #[v0, v1, v2]] w fun e w' => ∃ v l, e = .returned v ∧ IntR w' v l ∧ NumS n (S.flatten ++ l1 ++ F.flatten) l ∧ Below w.heap.size w w' := by
  have CM := hid (fun (a b : Nat) (ha : a < 64) (hb : b < 64) W (k : Below w.heap.size w W) => meetS_any n a b ha hb v0 v1 v2 S l1 F W (h0.kept k) (h1.kept k) (h2.kept k) sS s1 sF nS nF)
  obtain ⟨a0, c0, rfl, -⟩ := h0.open
  obtain ⟨a1, c1, rfl, -⟩ := h1.open
  obtain ⟨a2, c2, rfl, -⟩ := h2.open
  clear h0 h1 h2 sS s1 sF nS nF
  have VB := hid (VarAt.new w [.slice a0 S.length c0, .slice a1 l1.length c1, .slice a2 F.length c2] 29)
  have BX := hid ((Below.refl w.heap.size w).alloc (Nat.le_refl _) (.cells #[.slice a0 S.length c0, .slice a1 l1.length c1, .slice a2 F.length c2] 29))
  generalize hL : S.flatten ++ l1 ++ F.flatten = L at *
  replace hL := hid hL
  go_enter Tryd.func10, Tryd.ntmps10
  go_wp2_with fail
  have sX : Hid ((w.alloc (.cells #[.slice a0 S.length c0, .slice a1 l1.length c1, .slice a2 F.length c2] 29)).heap.size = w.heap.size + 1) := hid (by rw [World.size_alloc])
  generalize hX : w.alloc (.cells #[.slice a0 S.length c0, .slice a1 l1.length c1, .slice a2 F.length c2] 29) = X at *
  replace hX := hid hX
  go_loopw [5, 7] (fun t5 t wr => ∃ (j c : Nat) (p : Option Addr), t = .int .i64 j ∧ j ≤ n ∧ t5 = .slice p j c ∧ Hid (wr.ownsRow (w.heap.size + 1) 3 1 (.slice p j c) j (cellsI (List.replicate j 0))) ∧ Hid (VarAt wr w.heap.size [.slice a0 S.length c0, .slice a1 l1.length c1, .slice a2 F.length c2] 29) ∧ Hid (Below w.heap.size w wr) ∧ Hid (w.heap.size + 1 ≤ wr.heap.size)) (fun _ t _ => n - (intOf t).toNat)
  case atStart => exact ⟨0, 0, none, rfl, by omega, rfl, hid ⟨rfl, .inl ⟨rfl, rfl⟩⟩, VB, BX, hid (by rw [sX.out]; exact Nat.le_refl _)⟩
  case round =>
    obtain ⟨j, c, p, rfl, hj, rfl, O, V, B, Z⟩ := hrel
    clear VB BX sX hX
    by_cases hjn : j < n
    · have hk := (Below.refl wr.heap.size wr).alloc (Nat.le_refl _) (.cells #[.int .i64 0] 3)
      have B2 := hid (B.out.alloc B.out.size (.cells #[.int .i64 0] 3))
      have O2 : Hid ((wr.alloc (.cells #[.int .i64 0] 3)).ownsRow (w.heap.size + 1) 3 1 (.slice p j c) j (cellsI (List.replicate j 0))) := hid (own_keep O.out (fun g hg hl => hk.block g hl))
      have V2 := hid (V.out.past (.cells #[.int .i64 0] 3))
      have Z2 : Hid (w.heap.size + 1 ≤ (wr.alloc (.cells #[.int .i64 0] 3)).heap.size) := hid (by rw [World.size_alloc]; have := Z.out; omega)
      have R2 := hid (vals_new wr (.int .i64 0) 3)
      clear O B hk CM V Z
      go_wp2_with (first
        | (at_builtin; refine wl_appendI rfl _ _ rfl (w.heap.size + 1) (.slice p j c) rfl j (cellsI (List.replicate j 0)) O2.out _ rfl [.int .i64 0] R2.out (by simp [Value.oneCell']) (by simp; omega) Z2.out ?_; intro v' w5 o5 g5 h5; have T5 := grown_touch g5 O2.out; have B5 := hid (below_touch B2.out T5 (fun i hi q => by have := (own_lt O2.out q).1; omega)); have V5 := hid (V2.out.touch T5 (fun q => by have := (own_lt O2.out q).1; omega)); have Z5 := hid (Nat.le_trans Z2.out T5.size); obtain ⟨p2, c2', rfl⟩ := own_slice o5; clear T5 g5 h5))
      go_roundw
      case rel =>
        refine ⟨j + 1, c2', p2, by go_num, by omega, rfl, hid ?_, V5, B5, Z5⟩
        rw [show List.replicate (j + 1) 0 = List.replicate j 0 ++ [0] from List.replicate_succ']
        unfold cellsI at o5 ⊢
        rw [List.map_append]
        exact o5
      case measure => simp [intOf]; omega
    · have e : j = n := by omega
      subst e
      by_cases h0 : j = 0
      · subst h0
        clear CM V
        go_wp2_with fail
        go_loopw [8] (fun t8 wr2 => t8 = .int .i64 0 ∧ wr2 = wr) (fun _ _ => 0)
        case atStart => exact ⟨rfl, rfl⟩
        case round =>
          obtain ⟨rfl, rfl⟩ := hrel
          go_wp2_with fail
          go_ret
          exact ⟨_, [], rfl, ⟨p, c, rfl, by simp, fun i u hu => by simp at hu⟩, ⟨rfl, fun i hi => by omega, fun i k hi => by omega, fun i hi => by omega⟩, B.out⟩
      · obtain ⟨g, cap, rest, e1, hg, hv⟩ := own_var O.out (by omega)
        obtain ⟨rfl, -, rfl⟩ := Value.slice.inj e1
        have J0 : RsW w (.slice a0 S.length c0) (.slice a1 l1.length c1) (.slice a2 F.length c2) g rest (List.replicate j 0) wr := ⟨V.out, hv, B.out, hg⟩
        replace J0 := hid J0
        clear hv V B O Z e1
        go_wp2_with fail
        go_loopw [6, 8] (fun t6 t8 wr => ∃ (k v : Nat) (l : List Nat) (rt : Nat → Nat), t6 = .int .i64 (v : Int) ∧ t8 = .int .i64 (k : Int) ∧ k ≤ j ∧ v ≤ k ∧ Hid (RsW w (.slice a0 S.length c0) (.slice a1 l1.length c1) (.slice a2 F.length c2) g rest l wr) ∧ Hid (DocK j L l k v rt)) (fun _ t _ => j - (intOf t).toNat)
        case atStart => exact ⟨0, 0, _, _, rfl, rfl, by omega, by omega, J0, hid (docK_start j L)⟩
        case round =>
          clear J0
          obtain ⟨k, v, l, rt, rfl, rfl, hk, hvk, J, D⟩ := hrel
          by_cases hkj : k < j
          · have hll := D.out.len
            have xc := J.out.bo.cell k (out_at (by omega))
            have xf := J.out.bo.frozen k
            have hkI : (k : Int) < (j : Int) := by omega
            by_cases hz : l.getD k 0 = 0
            · have DN := hid (D.out.new hkj hz)
              have J1 := hid (J.out.put (k := k) (by omega) (v + 1))
              have hl1 : Hid ((l.set k (v + 1)).length = j) := hid (by rw [List.length_set]; exact hll)
              rw [hz] at xc
              clear D J
              generalize l.set k (v + 1) = m1 at *
              generalize hvv : v + 1 = vv at *
              have hv1 : ((v : Int) + 1) = ((vv : Nat) : Int) := by omega
              have hvk2 : vv ≤ k + 1 := by omega
              clear hvk
              go_wp2_with fail
              try simp only [hv1]
              go_loopw [9] (fun t9 wr => ∃ (r : Nat), t9 = .int .i64 (r : Int) ∧ r ≤ j ∧ Hid (RsW w (.slice a0 S.length c0) (.slice a1 l1.length c1) (.slice a2 F.length c2) g rest (roundsF (updL j L vv) j r m1) wr)) (fun t _ => j - (intOf t).toNat)
              case atStart =>
                refine ⟨0, rfl, by omega, hid ?_⟩
                have := J1.out
                first | exact this | (rw [hv1]; exact this) | (rw [← hv1] at this; exact this)
              case round =>
                clear J1
                obtain ⟨r, rfl, hr, J⟩ := hrel
                by_cases hrj : r < j
                · have hrI : (r : Int) < (j : Int) := by omega
                  have hm2 : Hid ((roundsF (updL j L vv) j r m1).length = j) := hid (by rw [rounds_len]; exact hl1.out)
                  have hnext : Hid (roundsF (updL j L vv) j (r + 1) m1 = roundF (updL j L vv) j j (roundsF (updL j L vv) j r m1)) := hid rfl
                  generalize roundsF (updL j L vv) j r m1 = m2 at *
                  clear xc xf DN
                  go_wp2_with fail
                  go_loopw [10] (fun t10 wr => ∃ (a : Nat), t10 = .int .i64 (a : Int) ∧ a ≤ j ∧ Hid (RsW w (.slice a0 S.length c0) (.slice a1 l1.length c1) (.slice a2 F.length c2) g rest (roundF (updL j L vv) j a m2) wr)) (fun t _ => j - (intOf t).toNat)
                  case atStart => exact ⟨0, rfl, by omega, J⟩
                  case round =>
                    clear J
                    obtain ⟨a, rfl, ha, J⟩ := hrel
                    by_cases haj : a < j
                    · have haI : (a : Int) < (j : Int) := by omega
                      have hm3 : Hid ((roundF (updL j L vv) j a m2).length = j) := hid (by rw [round_len]; exact hm2.out)
                      have hnext2 : Hid (roundF (updL j L vv) j (a + 1) m2 = innerF (updL j L vv) a j (roundF (updL j L vv) j a m2)) := hid rfl
                      generalize roundF (updL j L vv) j a m2 = m3 at *
                      go_wp2_with fail
                      go_loopw [11] (fun t11 wr => ∃ (b : Nat), t11 = .int .i64 (b : Int) ∧ b ≤ j ∧ Hid (RsW w (.slice a0 S.length c0) (.slice a1 l1.length c1) (.slice a2 F.length c2) g rest (innerF (updL j L vv) a b m3) wr)) (fun t _ => j - (intOf t).toNat)
                      case atStart => exact ⟨0, rfl, by omega, J⟩
                      case round =>
                        clear J
                        obtain ⟨b, rfl, hb, J⟩ := hrel
                        by_cases hbj : b < j
                        · have hbI : (b : Int) < (j : Int) := by omega
                          have hm4 : (innerF (updL j L vv) a b m3).length = j := by rw [inner_len]; exact hm3.out
                          have hnext3 : innerF (updL j L vv) a (b + 1) m3 = updL j L vv a b (innerF (updL j L vv) a b m3) := rfl
                          generalize innerF (updL j L vv) a b m3 = m4 at *
                          have ya := J.out.bo.cell a (out_at (by omega))
                          have yb := J.out.bo.cell b (out_at (by omega))
                          have kb := J.out.b0
                          have k0 := kb.cell 0 rfl
                          have k1 := kb.cell 1 rfl
                          have k2 := kb.cell 2 rfl
                          clear kb
                          have C := hid (CM.out a b (by omega) (by omega) wr J.out.bel)
                          by_cases e1 : m4.getD a 0 = vv
                          · by_cases e2 : m4.getD b 0 = 0
                            · rw [e1] at ya
                              rw [e2] at yb
                              cases q : MeetB j L a b
                              · have hn3 : Hid (innerF (updL j L vv) a (b + 1) m3 = m4) := hid (by rw [hnext3, updL_no (fun h => by rw [q] at h; exact absurd h.2.2 (by decide))])
                                rw [q] at C
                                clear hnext3 CM q
                                go_wp2_with (go_at_call 16; refine Calls.mono C.out ?_; rintro _ w' ⟨rfl, hbb⟩; have J2 := hid (J.out.kept hbb); clear hbb)
                                go_roundw
                                case rel => exact ⟨b + 1, by go_num, by omega, hid (by rw [hn3.out]; exact J2.out)⟩
                                case measure => simp [intOf]; omega
                              · have hn3 : Hid (innerF (updL j L vv) a (b + 1) m3 = m4.set b vv) := hid (by rw [hnext3, updL_yes ⟨e1, e2, q⟩])
                                have HF := hid (fun W (h : RsW w (.slice a0 S.length c0) (.slice a1 l1.length c1) (.slice a2 F.length c2) g rest m4 W) => (⟨h.bo.frozen b, by have := h.bo.cell b (out_at (by omega)); rw [e2] at this; exact this⟩ : W.frozen? ⟨g, b, none⟩ = false ∧ W.cell? ⟨g, b, none⟩ = some (.int .i64 ((0 : Nat) : Int))))
                                rw [q] at C
                                clear hnext3 CM q
                                go_wp2_with (go_at_call 16; refine Calls.mono C.out ?_; rintro _ w' ⟨rfl, hbb⟩; have J2 := hid (J.out.kept hbb); have zf := (HF.out _ J2.out).1; have zc := (HF.out _ J2.out).2; clear hbb)
                                go_roundw
                                case rel => exact ⟨b + 1, by go_num, by omega, hid (by rw [hn3.out]; exact J2.out.put (by omega) vv)⟩
                                case measure => simp [intOf]; omega
                            · have hn3 : Hid (innerF (updL j L vv) a (b + 1) m3 = m4) := hid (by rw [hnext3, updL_no (fun h => e2 h.2.1)])
                              rw [e1] at ya
                              generalize m4.getD b 0 = lb at *
                              have e2I : ¬ ((lb : Int) = 0) := by omega
                              clear hnext3 CM C k0 k1 k2
                              go_wp2_with fail
                              go_roundw
                              case rel => exact ⟨b + 1, by go_num, by omega, hid (by rw [hn3.out]; exact J.out)⟩
                              case measure => simp [intOf]; omega
                          · have hn3 : Hid (innerF (updL j L vv) a (b + 1) m3 = m4) := hid (by rw [hnext3, updL_no (fun h => e1 h.1)])
                            generalize m4.getD a 0 = la at *
                            have e1I : ¬ ((la : Int) = (vv : Int)) := by omega
                            clear hnext3 CM C k0 k1 k2 yb
                            go_wp2_with fail
                            go_roundw
                            case rel => exact ⟨b + 1, by go_num, by omega, hid (by rw [hn3.out]; exact J.out)⟩
                            case measure => simp [intOf]; omega
                        · have e : b = j := by omega
                          subst e
                          go_wp2_with fail
                          go_roundw
                          case rel => exact ⟨a + 1, by go_num, by omega, hid (by rw [hnext2.out]; exact J.out)⟩
                          case measure => simp [intOf]; omega
                    · have e : a = j := by omega
                      subst e
                      go_wp2_with fail
                      go_roundw
                      case rel => exact ⟨r + 1, by go_num, by omega, hid (by rw [hnext.out]; exact J.out)⟩
                      case measure => simp [intOf]; omega
                · have e : r = j := by omega
                  subst e
                  go_wp2_with fail
                  go_roundw
                  case rel => exact ⟨k + 1, vv, _, _, by first | rfl | go_num, by go_num, by omega, by omega, J, DN⟩
                  case measure => simp [intOf]; omega
            · have DS := hid (D.out.skip hkj hz)
              generalize l.getD k 0 = lk at *
              have hzI : ¬ ((lk : Int) = 0) := by omega
              clear D CM
              go_wp2_with fail
              go_roundw
              case rel => exact ⟨k + 1, v, l, rt, by first | rfl | go_num, by go_num, by omega, by omega, J, DS⟩
              case measure => simp [intOf]; omega
          · have e : k = j := by omega
            subst e
            have NS := docK_end D.out
            have JJ := J.out
            clear CM J D
            go_wp2_with fail
            go_ret
            have IR := JJ.bo.intR2 c (by have := NS.len; omega)
            rw [NS.len] at IR
            exact ⟨_, l, rfl, IR, hL.out ▸ NS, JJ.bel⟩
end Go.Proofs.YtdpbapoahfggeaaDoor
