/- The walk of the law LexIs. -/
import Derived.Test.YtdankjkmgcclhaaDoorRefLex
import Derived.Deep.QuietTactic
import Derived.Deep.RegionWith
import Derived.BigQuiet
import Derived.Deep.CutBlock
import Derived.Deep.CutRange
import Derived.Deep.DeepCutAuto
namespace Go.Proofs.YtdankjkmgcclhaaDoor.lexIs
open Go.ChangeShapes Go.WideShapes Go.ChangeAt Go.RowKit
set_option linter.unusedVariables false

theorem rowAt37 {w : World} {base : Nat} {v : Value} {n : Nat} {ts : List Tok} (h : w.ownsRow base 37 5 v n (cellsT ts)) {g : Nat} (hg : v.ownBlock = some g) : RowAt w g ts := by
  intro i t hi j u hj
  have := h.cells hg (i * 5 + j) u (cellsT_get ts i j t u hi hj)
  rwa [Addr.add_lit, Nat.zero_add] at this
theorem slice37 {w : World} {base : Nat} {v : Value} {n : Nat} {xs : List Value} (h : w.ownsRow base 37 5 v n xs) (hn : 0 < n) : ∃ g c, v = .slice (some ⟨g, 0, none⟩) n c ∧ base ≤ g ∧ g < w.heap.size := by
  rcases h.2 with ⟨_, rfl⟩ | ⟨g, cap, cur, hv, hb, hg, _⟩
  · omega
  · exact ⟨g, cap, hv, hb, (Array.getElem?_eq_some_iff.1 hg).1⟩

set_option maxRecDepth 100000 in
theorem lex_big (l : List UInt8) (hl : 8192 < l.length) (hl2 : l.length < 4611686018427387904) (w : World) :
    Calls Tryd.prog 10 #[.string (bstr l)] w fun e w' => e = .returned (.tuple #[.slice none 0 0, .agg #[.int .i64 10, .int .i64 1, .int .i64 1]]) ∧ Below w.heap.size w w' := by
  have s1 := bstr_size l
  go_enter Tryd.func10, Tryd.ntmps10
  go_wp2
  try simp only [Exit.inBlock, Exit.then]
  refine bodyPost_ret (results_tmp_row (P := Tryd.prog) rfl _ _ w.heap.size _ _ _ _ rfl (heap_alloc_new _ _) Tryd.underlying26 rfl (by kernel_rfl)) rfl ?_
  exact ⟨rfl, (Below.refl _ _).alloc (Nat.le_refl _) _⟩

set_option maxRecDepth 100000 in
theorem ref_big (l : List UInt8) (hl : 8192 < l.length) (hl2 : l.length < 4611686018427387904) (w : World) :
    Calls Tryd.prog 11 #[.string (bstr l)] w fun e w' => e = .returned (.tuple #[.slice none 0 0, .int .i64 10, .int .i64 1, .int .i64 1]) ∧ w' = w := by
  have s1 := bstr_size l
  go_enter Tryd.func11, Tryd.ntmps11
  go_wp2
  try simp only [Exit.inBlock, Exit.then]
  refine bodyPost_ret (results_tmp4 rfl _ _ _) rfl ?_
  exact ⟨rfl, rfl⟩

set_option maxRecDepth 100000 in
set_option maxHeartbeats 4000000 in
theorem walk (a0 : ByteArray) (w : World) (z0 : a0.size ≤ maxLen) (h : Errs w) (h' : Signs w) : Calls Tryd.prog 3 #[.string a0] w fun e w' => e = .returned (.bool true) ∧ Below w.heap.size w w' := by
  obtain ⟨l, rfl⟩ : ∃ l, a0 = bstr l := ⟨_, (bstr_of a0).symm⟩
  have s1 := bstr_size l
  have A := alive_any w h h'
  by_cases hl : l.length ≤ 16384
  · by_cases hl2 : l.length ≤ 8192
    · go_enter Tryd.func3, Tryd.ntmps3
      go_wp2_with fail
      refine A.mono ?_
      rintro e w1 ⟨rfl, b1⟩
      have C10 := lex_any l hl2 w1 (h.kept b1) (h'.kept b1)
      have C11 := fun W => refLex_any l hl2 W
      have b1 := hid b1
      go_wp2_with fail
      refine C10.mono ?_
      rintro e w5 ⟨r, rfl, ha, b5⟩
      have b05 := hid (Below.over b1.out b5)
      clear b5 C10 A
      cases hx : lexL l with
      | error p =>
        rw [LexAns, hx] at ha
        subst ha
        have hv : faultV 3 p.1 p.2 = .agg #[.int .i64 3, .int .i64 p.1, .int .i64 p.2] := rfl
        rw [hv]
        clear hv
        go_wp2_with fail
        refine (C11 _).mono ?_
        rintro e w7 ⟨r, rfl, hr, b7⟩
        rw [RefAns, hx] at hr
        subst hr
        have kF := (Blk.new w5 #[.int .i64 3, .int .i64 p.1, .int .i64 p.2] 26).kept b7
        have f0 : w7.cell? ⟨w5.heap.size, 0, none⟩ = some (.int .i64 3) := kF.cell 0
        have f1 : w7.cell? ⟨w5.heap.size, 1, none⟩ = some (.int .i64 p.1) := kF.cell 1
        have f2 : w7.cell? ⟨w5.heap.size, 2, none⟩ = some (.int .i64 p.2) := kF.cell 2
        have b07 := hid (Below.over (b05.out.alloc b05.out.size _) b7)
        clear b7 kF hx C11
        go_wp2_with fail
        go_loop [53] (fun v => v = .int .i64 0) (fun _ => 0)
        case atStart => exact rfl
        case round =>
          subst hrel
          go_wp2
          go_ret
          exact ⟨rfl, b07.out⟩
      | ok ts =>
        have hn0 : 0 < ts.length := by obtain ⟨xs, e, rfl, _⟩ := lex_toks _ _ _ _ hx; simp
        rw [LexAns, hx] at ha
        obtain ⟨v, rfl, own⟩ := ha
        obtain ⟨g, c, rfl, hg1, hg2⟩ := row_slice own hn0
        have R := hid (rowAt_of own rfl)
        have hv : faultV 0 0 0 = .agg #[.int .i64 0, .int .i64 0, .int .i64 0] := rfl
        rw [hv]
        clear own hv
        go_wp2_with fail
        refine (C11 _).mono ?_
        rintro e w7 ⟨r, rfl, hr, b7⟩
        rw [RefAns, hx] at hr
        obtain ⟨v2, rfl, own2⟩ := hr
        obtain ⟨g2, c2, rfl, hg3, hg4⟩ := slice37 own2 hn0
        have kF := (Blk.new w5 #[.int .i64 0, .int .i64 0, .int .i64 0] 26).kept b7
        have f0 : w7.cell? ⟨w5.heap.size, 0, none⟩ = some (.int .i64 0) := kF.cell 0
        have f1 : w7.cell? ⟨w5.heap.size, 1, none⟩ = some (.int .i64 0) := kF.cell 1
        have f2 : w7.cell? ⟨w5.heap.size, 2, none⟩ = some (.int .i64 0) := kF.cell 2
        have b07 := hid (Below.over (b05.out.alloc b05.out.size _) b7)
        have k57 : Below w5.heap.size w5 w7 := Below.over ((Below.refl _ _).alloc (Nat.le_refl _) _) b7
        have R1 := hid (R.out.kept hg2 k57)
        have R2 := hid (rowAt37 own2 rfl)
        have g7 : g < w7.heap.size := Nat.lt_of_lt_of_le hg2 k57.size
        have hts : ts.length ≤ 9223372036854775807 := by
          rcases own2.2 with ⟨_, h⟩ | ⟨_, cap, _, _, _, _, h1, h2, _⟩
          · omega
          · simp only [maxLen] at h2; omega
        clear b7 kF hx C11 own2 R k57
        go_wp2_with fail
        go_loopw [53] (fun vi wx => ∃ k : Nat, vi = .int .i64 k ∧ k ≤ ts.length ∧ Hid (Below w7.heap.size w7 wx)) (fun vi _ => ts.length - (intOf vi).toNat)
        case atStart => exact ⟨0, rfl, by omega, hid (Below.refl _ _)⟩
        case round =>
          obtain ⟨k, rfl, hk, hbx⟩ := hrel
          by_cases hlt : k < ts.length
          · have hget : ts[k]? = some ts[k] := List.getElem?_eq_getElem hlt
            obtain ⟨d0, d1, d2, d3, d4⟩ := row5 (R1.out.kept g7 hbx.out) hget
            have gw2 : g2 < wr.heap.size := Nat.lt_of_lt_of_le hg4 hbx.out.size
            have RX := fun o => row5 ((R2.out.kept hg4 hbx.out).kept gw2 ((Below.refl _ _).alloc (Nat.le_refl _) o)) hget
            have f0 := fun o => (RX o).1
            have f1 := fun o => (RX o).2.1
            have f2 := fun o => (RX o).2.2.1
            have f3 := fun o => (RX o).2.2.2.1
            have f4 := fun o => (RX o).2.2.2.2
            have RY := hid RX
            have tt : ((bstr (ts[k]).text).toList == (bstr (ts[k]).text).toList) = true := by simp
            clear RX hget
            have gw3 : ∀ o, g2 < (wr.alloc o).heap.size := fun o => by rw [World.size_alloc]; omega
            go_wp2_with fail
            go_region_with (
              go_at_call 12
              refine (plain_any ts[k] _).mono ?_
              rintro e w9 ⟨rfl, hb9⟩
              have e0 : w9.cell? ⟨g2, k * 5, none⟩ = some (.int .i64 (ts[k]).kind) := (hb9.cell (p := ⟨g2, k * 5, none⟩) (gw3 _)).trans (f0 _)
              have e1 : w9.cell? ⟨g2, k * 5 + 1, none⟩ = some (.string (bstr (ts[k]).text)) := (hb9.cell (p := ⟨g2, k * 5 + 1, none⟩) (gw3 _)).trans (f1 _)
              have e2 : w9.cell? ⟨g2, k * 5 + 2, none⟩ = some (.int .u64 (ts[k]).n) := (hb9.cell (p := ⟨g2, k * 5 + 2, none⟩) (gw3 _)).trans (f2 _)
              have e3 : w9.cell? ⟨g2, k * 5 + 3, none⟩ = some (.int .i64 (ts[k]).line) := (hb9.cell (p := ⟨g2, k * 5 + 3, none⟩) (gw3 _)).trans (f3 _)
              have e4 : w9.cell? ⟨g2, k * 5 + 4, none⟩ = some (.int .i64 (ts[k]).col) := (hb9.cell (p := ⟨g2, k * 5 + 4, none⟩) (gw3 _)).trans (f4 _))
            all_goals (
              go_wp2
              go_roundw
              case rel => exact ⟨k + 1, by go_num, by omega, hid (by first | exact Below.over (hbx.out.alloc hbx.out.size _).drew hb9 | exact (Below.over (hbx.out.alloc hbx.out.size _).drew hb9).drew | exact Below.over (hbx.out.alloc hbx.out.size _) hb9)⟩
              case measure => simp [intOf]; omega)
          · go_wp2
            go_ret
            exact ⟨rfl, b07.out.trans (hbx.out.mono b07.out.size)⟩
    · have C10 := fun W => lex_big l (by omega) (by omega) W
      have C11 := fun W => ref_big l (by omega) (by omega) W
      go_enter Tryd.func3, Tryd.ntmps3
      go_wp2_with fail
      refine A.mono ?_
      rintro e w1 ⟨rfl, b1⟩
      have b1 := hid b1
      go_wp2_with fail
      refine (C10 _).mono ?_
      rintro e w5 ⟨rfl, b5⟩
      have b05 := hid (Below.over b1.out b5)
      clear b5
      go_wp2_with (go_at_call 11; refine (C11 _).mono ?_; rintro e w' ⟨rfl, rfl⟩)
      go_loop [53] (fun v => v = .int .i64 0) (fun _ => 0)
      case atStart => exact rfl
      case round =>
        subst hrel
        go_wp2
        go_ret
        exact ⟨rfl, b05.out.alloc b05.out.size _⟩
  · go_enter Tryd.func3, Tryd.ntmps3
    go_wp2_with (go_at_call 9; refine A.mono ?_; rintro e w1 ⟨rfl, b1⟩)
    go_ret
    exact ⟨rfl, by assumption⟩
end Go.Proofs.YtdankjkmgcclhaaDoor.lexIs
