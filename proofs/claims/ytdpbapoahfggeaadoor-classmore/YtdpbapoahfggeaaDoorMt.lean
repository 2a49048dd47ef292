/- The contract of the document's Meets. -/
import Derived.Test.YtdpbapoahfggeaaDoorAv
import Derived.Test.YtdpbapoahfggeaaDoorDc
import Derived.Test.YtdpbapoahfggeaaDoorWt
import Derived.Test.YtdpbapoahfggeaaDoorCl
namespace Go.Proofs.YtdpbapoahfggeaaDoor
open Go.ChangeShapes Go.WideShapes Go.ChangeAt Go.RowKit Go.Deep
set_option linter.unusedVariables false
set_option linter.unusedSimpArgs false

theorem own_oneV (w : World) (v : Value) : (w.alloc (.cells #[v] 27)).ownsRow w.heap.size 27 1 (.slice (some ⟨w.heap.size, 0, none⟩) 1 1) 1 [v] :=
  ⟨rfl, .inr ⟨w.heap.size, 1, #[v], rfl, Nat.le_refl _, heap_alloc_new _ _, Nat.le_refl _, by simp [maxLen], rfl, rfl⟩⟩
theorem cellsT3 {w : World} {b : Nat} {x y z : Value} {t : TypeId} (h : VarAt w b [x, y, z] t) : w.cell? ⟨b, 0, none⟩ = some x ∧ w.cell? ⟨b, 1, none⟩ = some y ∧ w.cell? ⟨b, 2, none⟩ = some z := ⟨h.cell 0 rfl, h.cell 1 rfl, h.cell 2 rfl⟩
theorem getD_at {α : Type} {L : List α} {i : Nat} {d : α} (h : i < L.length) : L[i]? = some (L.getD i d) := by simp [List.getD, h]
theorem meet_same {n : Nat} {L L' : List Nat} (h : ∀ x, x ∈ L ↔ x ∈ L') {a b : Nat} : MeetB n L a b = MeetB n L' a b := by
  rw [Bool.eq_iff_iff, meet_iff, meet_iff]
  constructor
  · rintro ⟨h1, h2, x, h3, h4⟩; exact ⟨h1, h2, x, (h x).1 h3, h4⟩
  · rintro ⟨h1, h2, x, h3, h4⟩; exact ⟨h1, h2, x, (h x).2 h3, h4⟩
theorem meet_snoc_no {n a b x : Nat} {A B : List Nat} (h : MeetB n A a b = false) (e : B = A ++ [x]) (hq : (decide (a < n) && decide (b < n) && (x.testBit a && x.testBit b)) = false) : MeetB n B a b = false := by
  subst e
  unfold MeetB at h ⊢
  rw [List.any_append]
  cases q : (decide (a < n) && decide (b < n))
  · simp
  · rw [q] at h hq
    simp at h hq ⊢
    exact ⟨h, hq⟩
theorem own_lowB {w : World} {B base : Nat} {e : TypeId} {size n : Nat} {v : Value} {xs : List Value} (h : w.ownsRow B e size v n xs) (hb : base ≤ B) : w.ownsRow base e size v n xs := by
  refine ⟨h.1, ?_⟩
  rcases h.2 with q | ⟨g, cap, cur, q1, q2, q3⟩
  · exact .inl q
  · exact .inr ⟨g, cap, cur, q1, by omega, q3⟩

set_option maxRecDepth 100000 in
set_option maxHeartbeats 1000000 in
theorem meetS_any (n : Nat) (a b : Nat) (ha : a < 64) (hb : b < 64) (v0 v1 v2 : Value) (S : List (List Nat)) (l1 : List Nat) (F : List (List Nat)) (w : World) (h0 : RowsR w v0 S) (h1 : NumR w v1 l1) (h2 : RowsR w v2 F)
    (sS : Sm64 S) (s1 : Sm64 [l1]) (sF : Sm64 F) (nS : S.length ≤ 1000) (nF : F.length ≤ 1000) :
    Calls Tryd.prog 16 #[.int .i64 (n : Int), .agg #[v0, v1, v2], .int .i64 (a : Int), .int .i64 (b : Int)] w fun e w' => e = .returned (.bool (MeetB n (S.flatten ++ l1 ++ F.flatten) a b)) ∧ Below w.heap.size w w' := by
  obtain ⟨us0, U0, m0, N0, one0⟩ := h0.vals
  obtain ⟨us2, U2, m2, N2, one2⟩ := h2.vals
  have RL : Hid (∀ i, i < ([l1] ++ S ++ F).length → (([l1] ++ S ++ F).getD i []).length ≤ 9223372036854775807) := hid (fun i hi => by
    have hu := nums_app (L := [l1] ++ S) (by simp [m0]) (nums_app (us := [v1]) (L := [l1]) rfl (nums_one h1) N0) N2
    have := hu i (([v1] ++ us0 ++ us2)[i]'(by simp at hi ⊢; omega)) (([l1] ++ S ++ F).getD i []) (by simp) (getD_at hi)
    obtain ⟨_, _, _, h, _⟩ := NumR.open this
    exact h)
  obtain ⟨a0, c0, rfl, -⟩ := h0.open
  obtain ⟨a1, c1, rfl, -⟩ := h1.open
  obtain ⟨a2, c2, rfl, -⟩ := h2.open
  have NN := hid (nums_app (L := [l1] ++ S) (by simp [m0]) (nums_app (us := [.slice a1 l1.length c1]) (L := [l1]) rfl (nums_one h1) N0) N2)
  have SM : Hid (Sm64 ([l1] ++ S ++ F)) := hid (fun l hl => by
    rcases List.mem_append.1 hl with q | q
    · rcases List.mem_append.1 q with q | q
      · exact s1 l q
      · exact sS l q
    · exact sF l q)
  have n63 : Hid (1 + us0.length ≤ 2000000 ∧ 1 + us0.length + us2.length ≤ 2000000) := hid (by omega)
  have hlen : Hid (1 + us0.length + us2.length = ([l1] ++ S ++ F).length) := hid (by simp [m0, m2]; omega)
  replace U0 := hid U0
  replace U2 := hid U2
  replace one0 := hid one0
  replace one2 := hid one2
  clear h0 h1 h2 sS s1 sF N0 N2
  have VB := hid (VarAt.new w [.slice a0 S.length c0, .slice a1 l1.length c1, .slice a2 F.length c2] 29)
  have BX := hid ((Below.refl w.heap.size w).alloc (Nat.le_refl _) (.cells #[.slice a0 S.length c0, .slice a1 l1.length c1, .slice a2 F.length c2] 29))
  go_enter Tryd.func16, Tryd.ntmps16
  go_wp2_with fail
  have sX : Hid ((w.alloc (.cells #[.slice a0 S.length c0, .slice a1 l1.length c1, .slice a2 F.length c2] 29)).drew.heap.size = w.heap.size + 1) := hid (by rw [size_drew, World.size_alloc])
  replace VB := hid VB.out.drew
  replace BX := hid BX.out.drew
  have sx := hid (cellsT3 VB.out)
  refine wp_region_held_drew (S := fun (w' : World) => w'.cell? ⟨w.heap.size, 0, none⟩ = some (.slice a0 S.length c0) ∧ w'.cell? ⟨w.heap.size, 1, none⟩ = some (.slice a1 l1.length c1) ∧ w'.cell? ⟨w.heap.size, 2, none⟩ = some (.slice a2 F.length c2)) (by kernel_rfl) (sx.out) (fun hHeld => ?_)
  generalize hX : (w.alloc (.cells #[.slice a0 S.length c0, .slice a1 l1.length c1, .slice a2 F.length c2] 29)).drew = X at *
  refine wT 0 { dst := some 14, op := Go.Op.fieldAddr 29 (Go.Operand.tmp 5) 1, type := 0, pos := "ref.go:11", after := #[], guard := none } hHeld ?_
  try simp only [Act.put, sA, sB, sC]
  refine wT 1 { dst := some 15, op := Go.Op.load 27 (Go.Operand.tmp 14), type := 27, pos := "ref.go:11", after := #[{ on := 0, ground := Go.Ground.data }], guard := none } hHeld ?_
  try simp only [Act.put, sA, sB, sC]
  refine wT 3 { dst := some 17, op := Go.Op.fieldAddr 29 (Go.Operand.tmp 5) 0, type := 0, pos := "ref.go:11", after := #[], guard := none } hHeld ?_
  try simp only [Act.put, sA, sB, sC]
  refine wT 4 { dst := some 18, op := Go.Op.load 22 (Go.Operand.tmp 17), type := 22, pos := "ref.go:11", after := #[{ on := 3, ground := Go.Ground.data }], guard := none } hHeld ?_
  try simp only [Act.put, sA, sB, sC]
  refine wT 6 { dst := some 20, op := Go.Op.fieldAddr 29 (Go.Operand.tmp 5) 2, type := 0, pos := "ref.go:11", after := #[], guard := none } hHeld ?_
  try simp only [Act.put, sA, sB, sC]
  refine wT 7 { dst := some 21, op := Go.Op.load 22 (Go.Operand.tmp 20), type := 22, pos := "ref.go:11", after := #[{ on := 6, ground := Go.Ground.data }], guard := none } hHeld ?_
  try simp only [Act.put, sA, sB, sC]
  refine wO 2 { dst := some 16, op := Go.Op.buildSlice 22 1 #[(0, Go.Operand.tmp 15)], type := 22, pos := "ref.go:11", after := #[{ on := 1, ground := Go.Ground.data }], guard := none } (fun K' hK' => ?_)
  go_simp
  have O3 := hid (own_lowB (base := w.heap.size + 1) (own_oneV X (.slice a1 l1.length c1)) (by rw [sX.out]; exact Nat.le_refl _))
  have B3 := hid (BX.out.alloc BX.out.size (.cells #[.slice a1 l1.length c1] 27))
  have b3 : Hid (w.heap.size + 1 ≤ (X.alloc (.cells #[.slice a1 l1.length c1] 27)).heap.size) := hid (by rw [World.size_alloc, sX.out]; omega)
  have V3 := hid (VB.out.past (.cells #[.slice a1 l1.length c1] 27))
  have hz := hid (cellsT3 V3.out)
  generalize X.alloc (.cells #[.slice a1 l1.length c1] 27) = Y at *
  refine hK'.out _ _ hz.out (fun hHeld => ?_)
  clear hK' K'
  try simp only [Act.put, sA, sB, sC]
  refine wO 5 { dst := some 19, op := Go.Op.call { callee := Go.Callee.builtin Go.Builtin.append, args := #[Go.Operand.tmp 16, Go.Operand.tmp 18], argTypes := #[22, 22] }, type := 22, pos := "ref.go:11", after := #[{ on := 2, ground := Go.Ground.data }, { on := 4, ground := Go.Ground.data }], guard := none } (fun K' hK' => ?_)
  refine step_appendV (by rfl) _ _ (by rfl) (w.heap.size + 1) (.slice (some ⟨X.heap.size, 0, none⟩) 1 1) (by rfl) 1 [.slice a1 l1.length c1] O3.out _ (by rfl) us0 (U0.out.kept B3.out) one0.out n63.out.1 b3.out ?_
  intro v5 w5 o5 g5 h5
  have T5 := grown_touch g5 O3.out
  have B5 := hid (below_touch B3.out T5 (fun i hi q => by have := (own_lt O3.out q).1; omega))
  have V5 := hid (V3.out.touch T5 (fun q => by have := (own_lt O3.out q).1; omega))
  have hz := hid (cellsT3 V5.out)
  have b5 : Hid (w.heap.size + 1 ≤ w5.heap.size) := hid (Nat.le_trans b3.out T5.size)
  have O5 := hid o5
  obtain ⟨p5, c5, rfl⟩ := own_slice o5
  clear T5 h5 g5 o5
  refine hK'.out _ _ hz.out (fun hHeld => ?_)
  clear hK' K'
  try simp only [Act.put, sA, sB, sC]
  refine wO 8 { dst := some 22, op := Go.Op.call { callee := Go.Callee.builtin Go.Builtin.append, args := #[Go.Operand.tmp 19, Go.Operand.tmp 21], argTypes := #[22, 22] }, type := 22, pos := "ref.go:11", after := #[{ on := 5, ground := Go.Ground.data }, { on := 7, ground := Go.Ground.data }, { on := 5, ground := Go.Ground.chain }], guard := none } (fun K' hK' => ?_)
  refine step_appendV (by rfl) _ _ (by rfl) (w.heap.size + 1) (.slice p5 (1 + us0.length) c5) (by rfl) (1 + us0.length) _ O5.out _ (by rfl) us2 (U2.out.kept B5.out) one2.out n63.out.2 b5.out ?_
  intro v6 w6 o6 g6 h6
  have T6 := grown_touch g6 O5.out
  have B6 := hid (below_touch B5.out T6 (fun i hi q => by have := (own_lt O5.out q).1; omega))
  have V6 := hid (V5.out.touch T6 (fun q => by have := (own_lt O5.out q).1; omega))
  have hz := hid (cellsT3 V6.out)
  have O6 := hid o6
  clear T6 h6 g6 o6
  refine hK'.out _ _ hz.out (fun hHeld => ?_)
  clear hK' K'
  try simp only [Act.put, sA, sB, sC]
  refine wT 9 { dst := some 9, op := Go.Op.assign (Go.Operand.tmp 22), type := 22, pos := "ref.go:11", after := #[{ on := 8, ground := Go.Ground.data }, { on := 8, ground := Go.Ground.chain }, { on := 0, ground := Go.Ground.phase }, { on := 1, ground := Go.Ground.phase }, { on := 2, ground := Go.Ground.phase }, { on := 3, ground := Go.Ground.phase }, { on := 4, ground := Go.Ground.phase }, { on := 5, ground := Go.Ground.phase }, { on := 6, ground := Go.Ground.phase }, { on := 7, ground := Go.Ground.phase }, { on := 8, ground := Go.Ground.phase }], guard := none } hHeld ?_
  try simp only [Act.put, sA, sB, sC]
  refine wpAnyH_done (by kernel_rfl) ?_ _
  clear hHeld
  have RR : Hid (∀ i, i < ([l1] ++ S ++ F).length → ∃ b off u uc, (w6.cell? ⟨b, off + i, none⟩ = some (.slice u (([l1] ++ S ++ F).getD i []).length uc) ∧ ∃ c, v6 = .slice (some ⟨b, off, none⟩) ([l1] ++ S ++ F).length c) ∧ ∀ k, k < (([l1] ++ S ++ F).getD i []).length → ∃ b' off', u = some ⟨b', off', none⟩ ∧ w6.cell? ⟨b', off' + k, none⟩ = some (.int .u64 (((([l1] ++ S ++ F).getD i []).getD k 0 : Nat) : Int))) := hid (fun i hi => by
    obtain ⟨p, c, e, _, hv⟩ := own_vals O6.out (by simp; omega) (by simp; omega)
    have hu : (([Value.slice a1 l1.length c1] ++ us0 ++ us2)[i]?) = some (([Value.slice a1 l1.length c1] ++ us0 ++ us2)[i]'(by simp at hi ⊢; omega)) := by simp
    obtain ⟨b, off, e1, _, e3⟩ := hv i _ hu
    have hL : ([l1] ++ S ++ F)[i]? = some (([l1] ++ S ++ F).getD i []) := getD_at hi
    have nr := (NN.out i _ _ hu hL).kept B6.out
    obtain ⟨ua, uc, e4, _, hn⟩ := NumR.open nr
    rw [e4] at e3
    refine ⟨b, off, ua, uc, ⟨e3, c, ?_⟩, fun k hk => ?_⟩
    · rw [e, e1]
      congr 1
      simp
      omega
    · obtain ⟨b', off', h1, _, h3⟩ := hn k hk
      exact ⟨b', off', h1, h3⟩)
  obtain ⟨p6, c6, e6⟩ := own_slice O6.out
  have hm : ∀ q, MeetB n (S.flatten ++ l1 ++ F.flatten) a b = q ↔ MeetB n ([l1] ++ S ++ F).flatten a b = q := fun q => by
    rw [meet_same (L' := ([l1] ++ S ++ F).flatten) (fun x => by simp [or_comm, or_left_comm])]
  rw [hlen.out] at e6
  have hLn : ([l1] ++ S ++ F).length ≤ 3000 := by rw [← hlen.out]; omega
  replace hm := hid hm
  generalize [l1] ++ S ++ F = LL at *
  subst e6
  clear NN n63 hlen U0 U2 one0 one2 sX VB BX sx O3 B3 b3 V3 B5 V5 b5 O5 V6 hz O6 m0 m2 nS nF
  go_wp2_with fail
  go_loopw [25] (fun t25 wr => ∃ i, t25 = .int .i64 (i : Nat) ∧ i ≤ LL.length ∧ wr = w6 ∧ Hid (MeetB n (pre2 [] LL i) a b = false)) (fun t _ => LL.length - (intOf t).toNat)
  case atStart => exact ⟨0, rfl, by omega, rfl, hid (by simp [pre2, MeetB])⟩
  case round =>
    obtain ⟨i, rfl, hi, rfl, hM⟩ := hrel
    by_cases hil : i < LL.length
    · obtain ⟨rb, roff, u, uc, ⟨hcell, c', e⟩, hrow⟩ := RR.out i hil
      obtain ⟨rfl, -, rfl⟩ := Value.slice.inj e
      have hsn := hid (pre2_snoc (A := []) hil)
      have hin : Hid (∀ x ∈ LL.getD i [], x ∈ LL.flatten) := hid (fun x hx => List.mem_flatten.2 ⟨LL.getD i [], by simp [List.getD, hil], hx⟩)
      have hsm := hid (fun k hk => sm_at SM.out hil (k := k) hk)
      have hilI : (i : Int) < (LL.length : Int) := by omega
      have hln : Hid ((LL.getD i []).length ≤ 9223372036854775807) := hid (RL.out i hil)
      generalize LL.getD i [] = l at *
      generalize hA : pre2 [] LL i = A at *
      replace hrow := hid hrow
      replace hA := hid hA
      have hilH := hid hil
      clear RR SM e RL
      go_wp2_with fail
      clear hcell
      go_loopw [31] (fun t31 wr2 => ∃ k, t31 = .int .i64 (k : Nat) ∧ k ≤ l.length ∧ wr2 = wr ∧ Hid (MeetB n (pre1 A l k) a b = false)) (fun t _ => l.length - (intOf t).toNat)
      case atStart => exact ⟨0, rfl, by omega, rfl, hid (by rw [pre1_zero]; exact hM.out)⟩
      case round =>
        obtain ⟨k, rfl, hk, rfl, hN⟩ := hrel
        by_cases hkl : k < l.length
        · obtain ⟨b', off', rfl, cx⟩ := hrow.out k hkl
          have hx := hsm.out k hkl
          have hxm : l.getD k 0 ∈ l := by simp [List.getD, hkl]
          have hp := pre1_snoc (A := A) (show l[k]? = some (l.getD k 0) by simp [List.getD, hkl])
          have hinx := hin.out _ hxm
          generalize l.getD k 0 = x at *
          have CA := hid (fun W => hasS_any x (by rw [p64]; exact hx) (a : Int) W)
          have CB := hid (fun W => hasS_any x (by rw [p64]; exact hx) (b : Int) W)
          rw [hasB_nat x a ha] at CA
          rw [hasB_nat x b hb] at CB
          have hno := fun hq => hid (meet_snoc_no (n := n) (a := a) (b := b) hN.out hp hq)
          have hyes := fun h1 h2 h3 h4 => hid ((hm.out true).2 (meet_iff.2 ⟨h3, h4, x, hinx, h1, h2⟩))
          have hkI : (k : Int) < (l.length : Int) := by omega
          have hln' := hln.out
          clear hrow hsm hin hA hsn hp hinx hxm hx hN hM hm
          cases qa : x.testBit a
          · have hn1 := hno (by simp [qa])
            rw [qa] at CA
            clear hno hyes CB qa
            go_wp2_with (go_at_call 11; refine Calls.mono (CA.out _) ?_; rintro _ w' ⟨rfl, rfl⟩)
            go_roundw
            case rel => exact ⟨k + 1, by go_num, by omega, (by first | rfl | trivial), hn1⟩
            case measure => simp [intOf]; omega
          · rw [qa] at CA
            cases qb : x.testBit b
            · have hn1 := hno (by simp [qb])
              rw [qb] at CB
              clear hno hyes qa qb
              go_wp2_with (first | (go_at_call 11; with_reducible refine Calls.mono (CA.out _) ?_; rintro _ w' ⟨rfl, rfl⟩) | (go_at_call 11; with_reducible refine Calls.mono (CB.out _) ?_; rintro _ w' ⟨rfl, rfl⟩))
              go_roundw
              case rel => exact ⟨k + 1, by go_num, by omega, (by first | rfl | trivial), hn1⟩
              case measure => simp [intOf]; omega
            · rw [qb] at CB
              by_cases g1 : a < n
              · have g1I : (a : Int) < (n : Int) := by omega
                by_cases g2 : b < n
                · have g2I : (b : Int) < (n : Int) := by omega
                  have hy := hyes qa qb g1 g2
                  clear hno hyes qa qb
                  go_wp2_with (first | (go_at_call 11; with_reducible refine Calls.mono (CA.out _) ?_; rintro _ w' ⟨rfl, rfl⟩) | (go_at_call 11; with_reducible refine Calls.mono (CB.out _) ?_; rintro _ w' ⟨rfl, rfl⟩))
                  all_goals
                    go_ret
                    exact ⟨by rw [hy.out]; rfl, by first | exact B6.out | (rw [hX] at *; exact B6.out)⟩
                · have g2I : ¬ (b : Int) < (n : Int) := by omega
                  have hn1 := hno (by simp [g2])
                  clear hno hyes qa qb
                  go_wp2_with (first | (go_at_call 11; with_reducible refine Calls.mono (CA.out _) ?_; rintro _ w' ⟨rfl, rfl⟩) | (go_at_call 11; with_reducible refine Calls.mono (CB.out _) ?_; rintro _ w' ⟨rfl, rfl⟩))
                  go_roundw
                  case rel => exact ⟨k + 1, by go_num, by omega, (by first | rfl | trivial), hn1⟩
                  case measure => simp [intOf]; omega
              · have g1I : ¬ (a : Int) < (n : Int) := by omega
                have hn1 := hno (by simp [g1])
                clear hno hyes qa qb
                go_wp2_with (first | (go_at_call 11; with_reducible refine Calls.mono (CA.out _) ?_; rintro _ w' ⟨rfl, rfl⟩) | (go_at_call 11; with_reducible refine Calls.mono (CB.out _) ?_; rintro _ w' ⟨rfl, rfl⟩))
                go_roundw
                case rel => exact ⟨k + 1, by go_num, by omega, (by first | rfl | trivial), hn1⟩
                case measure => simp [intOf]; omega
        · have e : k = l.length := by omega
          subst e
          have hn1 : Hid (MeetB n (pre2 [] LL (i + 1)) a b = false) := hid (by rw [hsn.out, ← pre1_all]; exact hN.out)
          clear hrow hsm hin hA hsn hN hM hm
          go_wp2_with fail
          go_roundw
          case rel => exact ⟨i + 1, by go_num, by have := hilH.out; omega, (by first | rfl | trivial), hn1⟩
          case measure => have := hilH.out; simp [intOf]; omega
    · have e : i = LL.length := by omega
      subst e
      have hn1 : Hid (MeetB n (S.flatten ++ l1 ++ F.flatten) a b = false) := hid ((hm.out false).2 (by have := hM.out; rw [pre2_all] at this; exact this))
      clear RR SM hM hm RL
      go_wp2_with fail
      go_ret
      exact ⟨by rw [hn1.out]; rfl, B6.out⟩
end Go.Proofs.YtdpbapoahfggeaaDoor
