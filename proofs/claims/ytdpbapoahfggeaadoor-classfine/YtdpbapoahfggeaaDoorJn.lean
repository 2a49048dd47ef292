/- The contract of join: a set's sites, and what they are one with, are one. -/
import Derived.Test.YtdpbapoahfggeaaDoorCr
namespace Go.Proofs.YtdpbapoahfggeaaDoor
open Go.ChangeShapes Go.WideShapes Go.ChangeAt Go.RowKit
set_option linter.unusedVariables false
set_option linter.unusedSimpArgs false
attribute [local go_sem] Oper.semAt_some

theorem touch_more {T U : Nat → Prop} {a b c : World} (h : Touch T a b) (k : Touch U b c) (hU : ∀ i, i < a.heap.size → U i → T i) : Touch T a c :=
  ⟨k.os.trans h.os, k.tape.trans h.tape, k.output.trans h.output, Nat.le_trans h.size k.size, fun i hi hT => (k.block i (Nat.lt_of_lt_of_le hi h.size) (fun u => hT (hU i hi u))).trans (h.block i hi hT)⟩
theorem touch_drew (T : Nat → Prop) (w : World) : Touch T w w.drew := Touch.of_below (Below.refl _ _).drew
theorem VarAt.drew {w : World} {b : Nat} {cs : List Value} {t : TypeId} (h : VarAt w b cs t) : VarAt w.drew b cs t := h
theorem VarAt.touchset {w : World} {b p j : Nat} {cs : List Value} {t : TypeId} (h : VarAt w b cs t) (v : Value) (hb : b ≠ p) : VarAt (w.setCell ⟨p, j, none⟩ v) b cs t := h.touch (Touch.setCell (T := fun i => i = p) _ _ _ rfl) hb
/-- While the first range goes: what has come together so far. -/
structure JnW (w : World) (gb : Nat) (g : List Nat) (x k : Nat) (X : World) : Prop where
  b0 : VarAt X w.heap.size [.pointer (some ⟨gb, 0, none⟩)] 89
  b1 : VarAt X (w.heap.size + 1) [.int .u64 ((orG g ((bitsL x).take k) : Nat) : Int)] 23
  bg : VarAt X gb (cellsN g) 48
  bel : Below w.heap.size w X
theorem JnW.aside {w : World} {gb : Nat} {g : List Nat} {x k : Nat} {X X' : World} (hb : gb < w.heap.size) (h : JnW w gb g x k X) (ht : Touch (fun b => b = w.heap.size + 3 ∨ b = w.heap.size + 4) X X') : JnW w gb g x k X' :=
  ⟨h.b0.touch ht (by omega), h.b1.touch ht (by omega), h.bg.touch ht (by omega), below_touch h.bel ht (fun i hi => by omega)⟩
/-- While the second one goes: whose group is set so far. -/
structure JmW (w : World) (gb : Nat) (g : List Nat) (all k : Nat) (X : World) : Prop where
  b0 : VarAt X w.heap.size [.pointer (some ⟨gb, 0, none⟩)] 89
  b1 : VarAt X (w.heap.size + 1) [.int .u64 (all : Int)] 23
  bg : VarAt X gb (cellsN (setG g all ((bitsL all).take k))) 48
  bel : Touch (fun b => b = gb) w X
theorem JmW.aside {w : World} {gb : Nat} {g : List Nat} {all k N : Nat} {X X' : World} (hb : gb < w.heap.size) (h : JmW w gb g all k X) (hN : w.heap.size + 1 < N) (ht : Touch (fun b => N ≤ b) X X') : JmW w gb g all k X' :=
  ⟨h.b0.touch ht (by omega), h.b1.touch ht (by omega), h.bg.touch ht (by omega), touch_more h.bel ht (fun i hi => by omega)⟩
theorem set_snoc {g l : List Nat} {v k q : Nat} (h : l[k]? = some q) : setG g v (l.take (k + 1)) = (setG g v (l.take k)).set q v := by
  unfold setG
  rw [List.take_add_one, h]
  simp
theorem or_snoc {g l : List Nat} {k q : Nat} (h : l[k]? = some q) : orG g (l.take (k + 1)) = orG g (l.take k) ||| g.getD q 0 := by
  unfold orG
  rw [List.take_add_one, h]
  simp
theorem or64' {a b : Nat} (ha : a < 18446744073709551616) (hb : b < 18446744073709551616) : bits .or .u64 (a : Int) (b : Int) = ((a ||| b : Nat) : Int) := u64_or_nat a b ha hb

set_option maxRecDepth 100000 in
set_option maxHeartbeats 1000000 in
theorem join_any (x : Nat) (hx : x < 18446744073709551616) (gb : Nat) (g : List Nat) (n : Nat) (L : List Nat) (hg : GI n L g) (w : World) (hv : VarAt w gb (cellsN g) 48) (hTab : Tab w) (hgb : 0 < gb) :
    Calls Tryd.prog 26 #[.pointer (some ⟨gb, 0, none⟩), .int .u64 (x : Int)] w fun e w' => e = .returned (.tuple #[]) ∧ VarAt w' gb (cellsN (joinL g x)) 48 ∧ Touch (fun b => b = gb) w w' := by
  have hb0 := hTab.lt
  have hgl := hv.lt
  have hlen := hg.1
  replace hTab := hid hTab
  replace hv := hid hv
  refine (callsIn_wide (n := 3)).1 ?_
  refine callsIn_of_wp_marks Tryd.func26 rfl trivial ?_ rfl
  simp only [Tryd.ntmps26, List.size_toArray, List.length_cons, List.length_nil, Nat.reduceAdd, Nat.reduceSub, Array.replicate_succ, Array.replicate_zero, List.push_toArray, List.append_toArray, List.nil_append, List.cons_append]
  have K1 := VarAt.new w [.pointer (some ⟨gb, 0, none⟩)] 89
  have K2 := VarAt.new (w.alloc (.cells #[.pointer (some ⟨gb, 0, none⟩)] 89)) [.int .u64 0] 23
  gi_wp2_with (refine ⟨trivial, ?_⟩; gi_at_call 18; refine (callsIn_wide.2 (each_any _ _)).mono ?_; rintro _ w' ⟨rfl, rfl⟩)
  have B2 := below2 w (.cells #[.pointer (some ⟨gb, 0, none⟩)] 89) (.cells #[.int .u64 0] 23)
  have BZ := B2.alloc B2.size (.cells #[.int .u64 (x : Int)] 23)
  have D0 : JnW w gb g x 0 (((w.alloc (.cells #[.pointer (some ⟨gb, 0, none⟩)] 89)).alloc (.cells #[.int .u64 0] 23)).alloc (.cells #[.int .u64 (x : Int)] 23)) := by
    refine ⟨(K1.past _).past _, ?_, hv.out.kept BZ, BZ⟩
    have := K2.past (.cells #[.int .u64 (x : Int)] 23)
    simpa [orG] using this
  have TZ : Tab (((w.alloc (.cells #[.pointer (some ⟨gb, 0, none⟩)] 89)).alloc (.cells #[.int .u64 0] 23)).alloc (.cells #[.int .u64 (x : Int)] 23)) := hTab.out.below BZ hTab.out.lt
  have nc := new_cell ((w.alloc (.cells #[.pointer (some ⟨gb, 0, none⟩)] 89)).alloc (.cells #[.int .u64 0] 23)) #[.int .u64 (x : Int)] 23 0 _ rfl
  simp only [World.size_alloc] at nc
  have hS := fun n' => each1_seq (fun b => b = w.heap.size + 1) (fun q => by omega) x hx (w.heap.size + 1 + 1) _ nc TZ n'
  clear nc
  replace hS := hid hS
  have sZ : (((w.alloc (.cells #[.pointer (some ⟨gb, 0, none⟩)] 89)).alloc (.cells #[.int .u64 0] 23)).alloc (.cells #[.int .u64 (x : Int)] 23)).heap.size = w.heap.size + 3 := by simp
  generalize hZ : ((w.alloc (.cells #[.pointer (some ⟨gb, 0, none⟩)] 89)).alloc (.cells #[.int .u64 0] 23)).alloc (.cells #[.int .u64 (x : Int)] 23) = Z at *
  clear hZ K1 K2 B2 BZ
  replace D0 := hid D0
  replace TZ := hid TZ
  refine wpIn_range3 rfl rfl (gf := 27) (lb := #[.pointer (some ⟨w.heap.size + 1 + 1, 0, none⟩)]) rfl trivial (enters_of Tryd.func27 (by kernel_rfl) rfl) hS.out ⟨fun q => by omega, fun q => by omega⟩ (fun k args W h => by obtain ⟨x, _, rfl⟩ := h; rfl)
    (fun k X => JnW w gb g x k X) (fun c X => False) ?hI (fun _ _ _ _ h _ => h) ?h0 (fun k a' X => ∃ q : Nat, (bitsL x)[k]? = some q ∧ a' = { tmps := (.pointer (some ⟨gb, 0, none⟩) :: .int .u64 (x : Int) :: .pointer (some ⟨w.heap.size, 0, none⟩) :: undef :: .pointer (some ⟨w.heap.size + 1, 0, none⟩) :: .int .i64 (q : Int) :: undef :: .int .u64 (x : Int) :: .func (.func 27) #[] #[.pointer (some ⟨w.heap.size + 1 + 1, 0, none⟩)] :: .int .i64 (q : Int) :: undef :: undef :: undef :: undef :: undef :: undef :: undef :: undef :: undef :: undef :: undef :: undef :: undef :: undef :: undef :: []).toArray, defers := [] }) ?hA ?assign ?body ?done (fun _ _ _ h => h.elim)
  case hI =>
    rintro k X X' hz h ht
    exact h.aside hgl (ht.mono (fun i _ e => by omega))
  case h0 =>
    intro X hb hz
    have h := D0.out
    exact ⟨h.b0.kept hb, h.b1.kept hb, h.bg.kept hb, h.bel.trans (hb.mono h.bel.size)⟩
  case hA => exact fun k a' X X' h _ _ => h
  case assign =>
    rintro lp k args X K ⟨q, hq, rfl⟩ hsz hK
    gi_wp2
    exact hK _ _ (Below.refl _ _) ⟨q, hq, rfl⟩
  case body =>
    rintro lp k a' X hG hk ⟨q, hq, rfl⟩ hsz
    have x0 := hG.b0.cell 0 rfl
    have x1 := hG.b1.cell 0 rfl
    have x2 := hG.b1.frozen 0
    have hq64 := (bits_lt hq).1
    have xg := hG.bg.cell q (cellsN_at (by omega))
    have hs := or_snoc (g := g) hq
    have l1 := hg.lt q
    have l2 := or_lt hg ((bitsL x).take k)
    have ho := or64' (by rw [← p64]; exact l2) (by rw [← p64]; exact l1)
    have hlt' : (q : Int) < 64 := by omega
    generalize orG g ((bitsL x).take k) = ak at *
    generalize g.getD q 0 = gq at *
    replace hs := hid hs
    clear l1 l2 hS D0 hTab TZ hv hg
    replace hG := hid hG
    gi_wp2_with fail
    gi_region
    all_goals
      have s1 : VarAt (X.setCell ⟨w.heap.size + 1, 0, none⟩ (.int .u64 ((ak ||| gq : Nat) : Int))) (w.heap.size + 1) [.int .u64 ((ak ||| gq : Nat) : Int)] 23 := hG.out.b1.set 0 _
      refine ⟨(Touch.setCell (T := fun i => i = w.heap.size + 1) _ _ _ rfl).trans (touch_drew _ _), (hG.out.b0.touchset _ (by omega)).drew, ?_, (hG.out.bg.touchset _ (by omega)).drew, ((hG.out.bel).trans ?_)⟩
      · rw [hs.out]; exact s1.drew
      · exact below_touch ((Below.refl _ _).mono (by have := hG.out.bel.size; omega)) ((Touch.setCell (T := fun i => i = w.heap.size + 1) _ _ _ rfl).trans (touch_drew _ _)) (fun i hi => by omega) (by omega)
  case done =>
    rintro D X h hD hK
    obtain rfl : D = w.heap.size + 3 := by omega
    have x1 := h.b1.cell 0 rfl
    have lall := or_lt hg (bitsL x)
    rw [List.take_length] at x1
    have hall : orG g ((bitsL x).take (bitsL x).length) = orG g (bitsL x) := by rw [List.take_length]
    generalize ha : orG g (bitsL x) = all at *
    have hb1 : VarAt X (w.heap.size + 1) [.int .u64 (all : Int)] 23 := by have := h.b1; rw [hall] at this; exact this
    have hXs : w.heap.size + 3 < X.heap.size := by have := (Array.getElem?_eq_some_iff.1 hK).1; omega
    have E0 : JmW w gb g all 0 X := ⟨h.b0, hb1, by simpa [setG] using h.bg, Touch.of_below h.bel⟩
    have TX : Tab X := hTab.out.kept h.bel
    replace E0 := hid E0
    replace TX := hid TX
    replace hK := hid hK
    have hlast : Hid (joinL g x = setG g all (bitsL all)) := hid (by unfold joinL; rw [ha])
    rw [p64] at lall
    clear hS D0 TZ hv hg h hall hb1 hTab
    gi_wp2_with (refine ⟨trivial, ?_⟩; gi_at_call 18; refine (callsIn_wide.2 (each_any _ _)).mono ?_; rintro _ w' ⟨rfl, rfl⟩)
    all_goals (rename_i heq; cases heq)
    have BZ := (Below.refl X.heap.size X).alloc (Nat.le_refl _) (.cells #[.int .u64 (all : Int)] 23)
    have E1 : JmW w gb g all 0 (X.alloc (.cells #[.int .u64 (all : Int)] 23)) := ⟨E0.out.b0.kept BZ, E0.out.b1.kept BZ, E0.out.bg.kept BZ, touch_more E0.out.bel (Touch.of_below BZ (T := fun _ => False)) (fun _ _ q => q.elim)⟩
    have K1 : (X.alloc (.cells #[.int .u64 (all : Int)] 23)).heap[w.heap.size + 3]? = some (.deferred (some [])) := (BZ.block (w.heap.size + 3) (by omega)).trans hK.out
    have hS := fun n' => each1_seq (fun b => b = gb) (fun q => by omega) all lall X.heap.size _ (new_cell X #[.int .u64 (all : Int)] 23 0 _ rfl) (TX.out.kept BZ) n'
    replace hS := hid hS
    have s2 : (X.alloc (.cells #[.int .u64 (all : Int)] 23)).heap.size = X.heap.size + 1 := by simp
    generalize hY : X.alloc (.cells #[.int .u64 (all : Int)] 23) = Y at *
    clear hY BZ TX E0 hK
    replace E1 := hid E1
    replace K1 := hid K1
    refine wpIn_range3 rfl rfl (gf := 27) (lb := #[.pointer (some ⟨X.heap.size, 0, none⟩)]) rfl trivial (enters_of Tryd.func27 (by kernel_rfl) rfl) hS.out ⟨fun q => by omega, fun q => by omega⟩ (fun k args W h => by obtain ⟨x, _, rfl⟩ := h; rfl)
      (fun k X' => JmW w gb g all k X' ∧ X'.heap[w.heap.size + 3]? = some (.deferred (some []))) (fun c X => False) ?hI (fun _ _ _ _ h _ => h) ?h0 (fun k a' X' => ∃ q : Nat, (bitsL all)[k]? = some q ∧ a' = { tmps := (.pointer (some ⟨gb, 0, none⟩) :: .int .u64 (x : Int) :: .pointer (some ⟨w.heap.size, 0, none⟩) :: undef :: .pointer (some ⟨w.heap.size + 1, 0, none⟩) :: undef :: .int .i64 (q : Int) :: .int .u64 (x : Int) :: .func (.func 27) #[] #[.pointer (some ⟨w.heap.size + 1 + 1, 0, none⟩)] :: undef :: undef :: undef :: undef :: undef :: undef :: undef :: undef :: .int .u64 (all : Int) :: .func (.func 27) #[] #[.pointer (some ⟨X.heap.size, 0, none⟩)] :: .int .i64 (q : Int) :: undef :: undef :: undef :: undef :: undef :: []).toArray, defers := [] }) ?hA ?assign ?body ?done (fun _ _ _ h => h.elim)
    case hI =>
      rintro k X1 X2 hz ⟨h, h2⟩ ht
      exact ⟨h.aside (N := X.heap.size + 1) hgl (by omega) (ht.mono (fun i _ e => by omega)), (ht.block (w.heap.size + 3) (by omega) (by omega)).trans h2⟩
    case h0 =>
      intro X1 hb hz
      have h := E1.out
      exact ⟨⟨h.b0.kept hb, h.b1.kept hb, h.bg.kept hb, h.bel.trans (Touch.of_below hb)⟩, (hb.block (w.heap.size + 3) (by omega)).trans K1.out⟩
    case hA => exact fun k a' X X' h _ _ => h
    case assign =>
      rintro lp k args X1 K ⟨q, hq, rfl⟩ hsz hK
      gi_wp2
      exact hK _ _ (Below.refl _ _) ⟨q, hq, rfl⟩
    case body =>
      rintro lp k a' X1 ⟨hG, hD1⟩ hk ⟨q, hq, rfl⟩ hsz
      have x0 := hG.b0.cell 0 rfl
      have x1 := hG.b1.cell 0 rfl
      have x2 := hG.bg.frozen q
      have hq64 := (bits_lt hq).1
      have hsl : (setG g all ((bitsL all).take k)).length = 64 := by rw [setG_len, hlen]
      have xg := hG.bg.cell q (cellsN_at (by omega))
      have hs := set_snoc (g := g) (v := all) hq
      have hlt' : (q : Int) < 64 := by omega
      generalize hst : setG g all ((bitsL all).take k) = gk at *
      generalize hqq : gk.getD q 0 = gq at *
      replace hst := hid hst
      replace hqq := hid hqq
      replace hs := hid hs
      clear hS E1 K1
      replace hG := hid hG
      replace hD1 := hid hD1
      gi_wp2_with fail
      gi_region
      all_goals
        have hG1 := hG.out.bg
        rw [hst.out] at hG1
        have s1 : VarAt (X1.setCell ⟨gb, q, none⟩ (.int .u64 (all : Int))) gb ((cellsN gk).set q (.int .u64 (all : Int))) 48 := hG1.set q _
        rw [cellsN_set] at s1
        have tt : Touch (fun i => i = gb) X1 (X1.setCell ⟨gb, q, none⟩ (.int .u64 (all : Int))).drew := (Touch.setCell (T := fun i => i = gb) _ _ _ rfl).trans (touch_drew _ _)
        refine ⟨tt, ⟨(hG.out.b0.touchset _ (by omega)).drew, (hG.out.b1.touchset _ (by omega)).drew, ?_, hG.out.bel.trans tt⟩, (tt.block (w.heap.size + 3) (by have := (Array.getElem?_eq_some_iff.1 hD1.out).1; exact this) (by omega)).trans hD1.out⟩
        rw [hs.out]
        exact s1.drew
    case done =>
      rintro D2 X1 ⟨h, hD1⟩ hD2 hK2
      have hd2 := (Array.getElem?_eq_some_iff.1 hD1).1
      replace h := hid h
      replace hK2 := hid hK2
      replace hD1 := hid hD1
      clear hS E1 K1
      gi_wp2_with fail
      refine ⟨by simp, .inl ⟨_, _, rfl, run_takeDeferred hK2.out, ⟨by simp, .inl ⟨_, _, rfl, run_takeDeferred ((World.putObj_heap_other (by omega)).trans hD1.out), ?_⟩⟩⟩⟩
      refine ⟨_, results_none rfl _ _ _, rfl, ?_⟩
      have h1 := h.out
      have hv1 := h1.bg
      rw [List.take_length, ← hlast.out] at hv1
      have p1 : Touch (fun b => X.heap.size + 1 ≤ b) X1 (X1.putObj D2 (.deferred none)) := Touch.putObj _ _ _ (by omega)
      have p2 : Touch (fun b => b = w.heap.size + 3) (X1.putObj D2 (.deferred none)) ((X1.putObj D2 (.deferred none)).putObj (w.heap.size + 3) (.deferred none)) := Touch.putObj _ _ _ rfl
      have p3 := touch_more (h1.bel) p1 (fun i hi e => by omega)
      exact ⟨(hv1.touch p1 (by omega)).touch p2 (by omega), touch_more p3 p2 (fun i hi e => by omega)⟩
end Go.Proofs.YtdpbapoahfggeaaDoor
