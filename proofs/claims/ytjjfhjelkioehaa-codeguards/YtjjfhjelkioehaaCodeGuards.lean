/- The law padlocklaw09.CodeGuards answers true at every input: in a code that can be nothing shared is touched outside sections, and no jump goes into one, or out of one. No conditions. -/
import Derived.Test.YtjjfhjelkioehaaRows
import Derived.Test.YtjjfhjelkioehaaPlain
import Derived.WalkKit
import Derived.ProofKit
import Derived.OpenShut
import Derived.ShutString
import Derived.ChangeOld
import Derived.Below
import Derived.Deep.QuietTactic
import Derived.BigQuiet
import Derived.Deep.CutBlock
import Derived.Deep.CutRange
import Derived.Deep.DeepCutAuto
namespace Go.Proofs.Ytjjfhjelkioehaa.codeGuards
open Go.ChangeShapes Go.WideShapes Go.ChangeAt Go.RowKit
open Go.ChangeMaps (open_string shut_string)
set_option linter.unusedVariables false

theorem own : ownKnob Try.prog.godebug = none := by kernel_rfl
theorem laidOut : laidOutB Try.prog = true := by kernel_rfl

theorem five {w : World} {b : Nat} {v0 v1 v2 v3 v4 : Value} (h : BoxAt w b [v0, v1, v2, v3, v4]) :
    w.cell? ⟨b, 0, none⟩ = some v0 ∧ w.cell? ⟨b, 1, none⟩ = some v1 ∧ w.cell? ⟨b, 2, none⟩ = some v2 ∧ w.cell? ⟨b, 3, none⟩ = some v3 ∧ w.cell? ⟨b, 4, none⟩ = some v4 :=
  ⟨h.2 0 _ rfl, h.2 1 _ rfl, h.2 2 _ rfl, h.2 3 _ rfl, h.2 4 _ rfl⟩
theorem eight {w : World} {b : Nat} {v0 v1 v2 v3 v4 v5 v6 v7 : Value} (h : BoxAt w b [v0, v1, v2, v3, v4, v5, v6, v7]) :
    w.cell? ⟨b, 0, none⟩ = some v0 ∧ w.cell? ⟨b, 1, none⟩ = some v1 ∧ w.cell? ⟨b, 2, none⟩ = some v2 ∧ w.cell? ⟨b, 3, none⟩ = some v3 ∧ w.cell? ⟨b, 4, none⟩ = some v4 ∧ w.cell? ⟨b, 5, none⟩ = some v5 ∧ w.cell? ⟨b, 6, none⟩ = some v6 ∧ w.cell? ⟨b, 7, none⟩ = some v7 :=
  ⟨h.2 0 _ rfl, h.2 1 _ rfl, h.2 2 _ rfl, h.2 3 _ rfl, h.2 4 _ rfl, h.2 5 _ rfl, h.2 6 _ rfl, h.2 7 _ rfl⟩
theorem BoxAt.drewN {w : World} {b : Nat} {cs : List Value} (h : BoxAt w b cs) (n : Nat) : BoxAt (w.drewN n) b cs := h.kept (below_drewN (Below.refl _ _) n)

theorem s13 {W : World} {b0 b1 : Nat} {v0 v1 v2 v3 v4 u0 u1 u2 u3 u4 u5 u6 u7 : Value} (h : BoxAt W b0 [v0, v1, v2, v3, v4]) (k : BoxAt W b1 [u0, u1, u2, u3, u4, u5, u6, u7]) :
    W.cell? ⟨b0, 0, none⟩ = some v0 ∧ W.cell? ⟨b0, 1, none⟩ = some v1 ∧ W.cell? ⟨b0, 2, none⟩ = some v2 ∧ W.cell? ⟨b0, 3, none⟩ = some v3 ∧ W.cell? ⟨b0, 4, none⟩ = some v4 ∧
    W.cell? ⟨b1, 0, none⟩ = some u0 ∧ W.cell? ⟨b1, 1, none⟩ = some u1 ∧ W.cell? ⟨b1, 2, none⟩ = some u2 ∧ W.cell? ⟨b1, 3, none⟩ = some u3 ∧ W.cell? ⟨b1, 4, none⟩ = some u4 ∧ W.cell? ⟨b1, 5, none⟩ = some u5 ∧ W.cell? ⟨b1, 6, none⟩ = some u6 ∧ W.cell? ⟨b1, 7, none⟩ = some u7 :=
  ⟨h.2 0 _ rfl, h.2 1 _ rfl, h.2 2 _ rfl, h.2 3 _ rfl, h.2 4 _ rfl, k.2 0 _ rfl, k.2 1 _ rfl, k.2 2 _ rfl, k.2 3 _ rfl, k.2 4 _ rfl, k.2 5 _ rfl, k.2 6 _ rfl, k.2 7 _ rfl⟩

set_option maxRecDepth 100000 in
set_option maxHeartbeats 4000000 in
theorem walk (v0 : Value) (c : Cd) (w : World) (w0 : IsCd w v0 c) :
    Calls Try.prog 5 #[v0] w fun e w' => e = .returned (.bool true) ∧ Below w.heap.size w w' := by
  obtain ⟨rfl, hc⟩ := w0
  obtain ⟨a0, p0, a1, p1, a2, p2, a3, p3, a4, p4, e0, e1, e2, e3, e4⟩ := cd_open hc
  obtain ⟨at', ct, et, hT⟩ := bd_cells hc.2.2.1
  rw [e2] at et; cases et
  have DG := fun W (h : Below w.heap.size w W) => great_any c W (Cd.kept hc h)
  have DC := fun (s : SmallP c) W (h : Below w.heap.size w W) => goodC_any c W (Cd.kept hc h) s
  have hsec := hc.2.2.2.2
  have DI := fun (h : SmallP c) (th pl : Int) W (k : Below w.heap.size w W) => inside_any c.rv c.gv c.tv c.ev c.cv c.secs th pl W (Secs.kept hsec k) (by have := h.l5; omega)
  rw [e0, e1, e2, e3, e4] at DG DC DI ⊢
  clear e0 e1 e2 e3 e4 hc hsec
  generalize h2 : c.threads.length = n2 at *
  replace h2 := hid h2
  have B := (Below.refl w.heap.size w).alloc (Nat.le_refl _) (.cells #[.slice a0 c.recs.length p0, .slice a1 c.globs.length p1, .slice a2 n2 p2, .slice a3 c.sites.length p3, .slice a4 c.secs.length p4] 28)
  have KC := BoxAt.new w #[.slice a0 c.recs.length p0, .slice a1 c.globs.length p1, .slice a2 n2 p2, .slice a3 c.sites.length p3, .slice a4 c.secs.length p4] 28
  replace DG := hid DG
  replace DC := hid DC
  replace DI := hid DI
  replace B := hid B
  replace KC := hid KC
  replace hT := hid hT
  go_enter Try.func5, Try.ntmps5
  go_wp2_with fail
  refine Calls.mono (alive_any _) ?_
  rintro e w1 ⟨rfl, hb⟩
  replace B := hid (B.out.trans (hb.mono B.out.size))
  replace KC := hid (KC.out.kept hb)
  clear hb
  obtain ⟨c0, c1, c2, c3, c4⟩ := five KC.out
  go_wp2_with fail
  refine Calls.mono (DG.out _ B.out) ?_
  rintro e w2 ⟨q, rfl, hq, hb⟩
  replace B := hid (B.out.trans (hb.mono B.out.size))
  replace KC := hid (KC.out.kept hb)
  replace hq := hid hq
  clear c0 c1 c2 c3 c4 hb DG
  cases q
  rotate_left
  · clear DC DI KC hT hq
    go_wp2
    go_ret
    exact ⟨rfl, B.out⟩
  have SM := hid (hq.out rfl)
  clear hq
  obtain ⟨c0, c1, c2, c3, c4⟩ := five KC.out
  go_wp2_with fail
  refine Calls.mono (DC.out SM.out _ B.out) ?_
  rintro e w3 ⟨q, rfl, hq, hb⟩
  replace B := hid (B.out.trans (hb.mono B.out.size))
  replace KC := hid (KC.out.kept hb)
  replace hq := hid hq
  clear c0 c1 c2 c3 c4 hb DC
  cases q
  · clear DI KC hT hq
    go_wp2
    go_ret
    exact ⟨rfl, B.out⟩
  have GP := hid (hq.out.1 rfl)
  replace DI := hid (DI.out SM.out)
  have hn2 : n2 ≤ 1000 := by have := SM.out.l3; rw [h2.out] at this; exact this
  have hcode := hid SM.out.code
  clear hq SM
  obtain ⟨c0, c1, c2, c3, c4⟩ := five KC.out
  go_wp2_with fail
  go_loopw [20] (fun t wr => ∃ i : Nat, t = .int .i64 i ∧ i ≤ n2 ∧ Hid (Below w.heap.size w wr) ∧ Hid (BoxAt wr w.heap.size [.slice a0 c.recs.length p0, .slice a1 c.globs.length p1, .slice a2 n2 p2, .slice a3 c.sites.length p3, .slice a4 c.secs.length p4])) (fun t _ => n2 - (intOf t).toNat)
  case atStart => exact ⟨0, rfl, by omega, B, KC⟩
  case round =>
    clear B KC c0 c1 c2 c3 c4
    obtain ⟨i, rfl, hi, B, KC⟩ := hrel
    by_cases hin : i < n2
    rotate_left
    · clear KC hT GP DI hcode
      go_wp2
      go_ret
      exact ⟨rfl, B.out⟩
    obtain ⟨x, bt, ot, a5, p5, a6, p6, hx, rfl, hb, e5, e6, t0, t1, t2, ok⟩ := hT.out i hin
    rw [← B.out.cell hb] at t0 t1 t2
    obtain ⟨ai, ci, ei, hI⟩ := ins_cells ok.2.2
    rw [e6] at ei; cases ei
    have hxc := hcode.out i x hx
    have GU := hid (fun k y (hy : x.code[k]? = some y) => guards_of GP.out hx hy)
    have KT := hid (BoxAt.new wr #[.slice a5 x.slots.length p5, .slice a6 x.code.length p6, .int .i64 x.most] 39)
    have B2 := hid (B.out.alloc B.out.size (.cells #[.slice a5 x.slots.length p5, .slice a6 x.code.length p6, .int .i64 x.most] 39))
    replace KC := hid (KC.out.past (.cells #[.slice a5 x.slots.length p5, .slice a6 x.code.length p6, .int .i64 x.most] 39))
    replace hI := hid hI
    clear e5 e6 ok hT hcode hx GP B
    replace hb := hid hb
    generalize hcl : x.code.length = nc at *
    replace hcl := hid hcl
    go_wp2_with fail
    generalize htb : wr.heap.size = tb at *
    clear htb
    go_loopw [28] (fun t wr' => ∃ k : Nat, t = .int .i64 k ∧ k ≤ nc ∧ Hid (Below w.heap.size w wr') ∧ Hid (BoxAt wr' w.heap.size [.slice a0 c.recs.length p0, .slice a1 c.globs.length p1, .slice (some ⟨bt, ot, none⟩) n2 p2, .slice a3 c.sites.length p3, .slice a4 c.secs.length p4]) ∧ Hid (BoxAt wr' tb [.slice a5 x.slots.length p5, .slice a6 nc p6, .int .i64 x.most])) (fun t _ => nc - (intOf t).toNat)
    case atStart => exact ⟨0, rfl, by omega, B2, KC, KT⟩
    case round =>
      clear B2 KC KT t0 t1 t2
      obtain ⟨k, rfl, hk, B, KC, KT⟩ := hrel
      by_cases hkn : k < nc
      rotate_left
      · clear KT hI GU DI
        go_wp2
        go_roundw
        case rel => exact ⟨i + 1, by go_num, by omega, B, KC⟩
        case measure => simp [intOf]; omega
      obtain ⟨y, b', off', a7, p7, a8, p8, hy, rfl, hb', e7, e8, ⟨d0, d1, d2, d3, d4, d5, d6, d7⟩, ok⟩ := hI.out k hkn
      rw [← B.out.cell hb'] at d0 d1 d2 d3 d4 d5 d6 d7
      obtain ⟨g1, g2, g3, g4, g5, g6⟩ := GU.out k y hy
      replace g2 := hid g2
      replace g3 := hid g3
      replace g5 := hid g5
      replace g6 := hid g6
      replace B := hid (B.out.alloc B.out.size (.cells #[.int .i64 y.op, .int .i64 y.dst, .int .i64 y.src, .int .i64 y.rc, .int .i64 y.n, .int .i64 y.to, .slice a7 y.items.length p7, .slice a8 y.index.length p8] 33))
      replace KC := hid (KC.out.past (.cells #[.int .i64 y.op, .int .i64 y.dst, .int .i64 y.src, .int .i64 y.rc, .int .i64 y.n, .int .i64 y.to, .slice a7 y.items.length p7, .slice a8 y.index.length p8] 33))
      replace KT := hid (KT.out.past (.cells #[.int .i64 y.op, .int .i64 y.dst, .int .i64 y.src, .int .i64 y.rc, .int .i64 y.n, .int .i64 y.to, .slice a7 y.items.length p7, .slice a8 y.index.length p8] 33))
      have KX := hid (BoxAt.new wr #[.int .i64 y.op, .int .i64 y.dst, .int .i64 y.src, .int .i64 y.rc, .int .i64 y.n, .int .i64 y.to, .slice a7 y.items.length p7, .slice a8 y.index.length p8] 33)
      have DI1 := hid (DI.out i k)
      have DI2 := hid (DI.out i (IntKind.i64.wrap ((k : Int) + 1)))
      have DI3 := hid (DI.out i y.to)
      obtain ⟨c0, c1, c2, c3, c4⟩ := five ((KC.out : BoxAt _ _ _))
      replace hb' := hid hb'
      replace g4 := hid g4
      replace g1 := hid g1
      clear e7 e8 ok hI hy GU DI
      go_wp2_with fail
      refine Calls.mono (DI1.out _ B.out) ?_
      rintro e w2 ⟨rfl, hb2⟩
      replace B := hid (B.out.trans (hb2.mono B.out.size))
      replace KC := hid (KC.out.kept hb2)
      replace KT := hid (KT.out.kept hb2)
      replace KX := hid (KX.out.kept hb2)
      clear hb2 DI1 c0 c1 c2 c3 c4 d0 d1 d2 d3 d4 d5 d6 d7
      generalize hxb : wr.heap.size = xb at *
      clear hxb
      have hend : ((y.op == 17) = true ∧ ((k : Int) + 1 == (nc : Int)) = true) ∨ ((y.op == 17) = false ∧ ((k : Int) + 1 == (nc : Int)) = false) := by
        have := g4.out
        simp only [beq_iff_eq, beq_eq_false_iff_ne, ne_eq]
        omega
      have hop : (2 ≤ y.op ∧ y.op ≤ 9) ∨ (y.op = 13 ∨ y.op = 14) ∨ y.op = 16 ∨ y.op = 15 ∨ y.op = 17 ∨ (y.op = 1 ∨ y.op = 10 ∨ y.op = 11 ∨ y.op = 12) := by
        have := g1.out
        omega
      clear g1 g4
      obtain ⟨f0, f1, f2, f3, f4, f5, f6, f7⟩ := eight KX.out
      have s1 := KT.out.2 1 _ rfl
      obtain ⟨c0, c1, c2, c3, c4⟩ := five KC.out
      generalize hin2 : inside c.secs (i : Int) (k : Int) = ins at *
      rcases hop with h | h | h | h | h | h
      · have h1 := h.1
        have h3 := h.2
        have h4 := g2.out h1 h3
        have m1 : (y.op == 13) = false := by simp only [beq_eq_false_iff_ne]; omega
        have m2 : (y.op == 14) = false := by simp only [beq_eq_false_iff_ne]; omega
        have m3 : (y.op == 17) = false := by simp only [beq_eq_false_iff_ne]; omega
        have m4 : (y.op == 16) = false := by simp only [beq_eq_false_iff_ne]; omega
        have m5 : (y.op == 15) = false := by simp only [beq_eq_false_iff_ne]; omega
        have m6 : ((k : Int) + 1 == (nc : Int)) = false := by rcases hend with e | e; (rw [e.1] at m3; cases m3); exact e.2
        clear h g2 g3 g5 g6 DI2 DI3 hend hin2
        go_wp2_with fail
        go_quiet (fail)
        go_wp2
        go_roundw
        case rel => exact ⟨k + 1, by go_num, by omega, hid (below_drewN B.out nq), hid (BoxAt.drewN KC.out nq), hid (BoxAt.drewN KT.out nq)⟩
        case measure => simp [intOf]; omega
      · have h1 : 9 < y.op := by omega
        have h1' : 2 ≤ y.op := by omega
        obtain ⟨h3, h4, h5⟩ := g3.out h
        rw [h5] at DI3
        have m3 : (y.op == 17) = false := by simp only [beq_eq_false_iff_ne]; omega
        have m4 : (y.op == 16) = false := by simp only [beq_eq_false_iff_ne]; omega
        have m5 : (y.op == 15) = false := by simp only [beq_eq_false_iff_ne]; omega
        have m6 : ((k : Int) + 1 == (nc : Int)) = false := by rcases hend with e | e; (rw [e.1] at m3; cases m3); exact e.2
        have m1 : ((y.op == 13) = true) ∨ ((y.op == 13) = false ∧ (y.op == 14) = true) := by simp only [beq_iff_eq, beq_eq_false_iff_ne]; omega
        clear h g2 g3 g5 g6 DI2 hend hin2 h5
        rcases m1 with m1 | ⟨m1, m2⟩
        all_goals
          go_wp2_with fail
          refine Calls.mono (DI3.out _ B.out) ?_
          rintro e w4 ⟨rfl, hb4⟩
          replace B := hid (B.out.trans (hb4.mono B.out.size))
          replace KC := hid (KC.out.kept hb4)
          replace KT := hid (KT.out.kept hb4)
          replace KX := hid (KX.out.kept hb4)
          clear hb4 c0 c1 c2 c3 c4 f0 f1 f2 f3 f4 f5 f6 f7 s1 DI3
          obtain ⟨f0, f1, f2, f3, f4, f5, f6, f7⟩ := eight KX.out
          have s1 := KT.out.2 1 _ rfl
          go_wp2_with fail
          go_quiet (fail)
          go_wp2
          go_roundw
          case rel => exact ⟨k + 1, by go_num, by omega, hid (below_drewN B.out nq), hid (BoxAt.drewN KC.out nq), hid (BoxAt.drewN KT.out nq)⟩
          case measure => simp [intOf]; omega
      · have h1 : 9 < y.op := by omega
        have h1' : 2 ≤ y.op := by omega
        have h4 := g5.out h
        have m1 : (y.op == 13) = false := by simp only [beq_eq_false_iff_ne]; omega
        have m2 : (y.op == 14) = false := by simp only [beq_eq_false_iff_ne]; omega
        have m3 : (y.op == 17) = false := by simp only [beq_eq_false_iff_ne]; omega
        have m4 : (y.op == 16) = true := by simp only [beq_iff_eq]; omega
        have m5 : (y.op == 15) = false := by simp only [beq_eq_false_iff_ne]; omega
        have m6 : ((k : Int) + 1 == (nc : Int)) = false := by rcases hend with e | e; (rw [e.1] at m3; cases m3); exact e.2
        have m7 : (ins != y.n) = false := by rw [← h4]; simp
        clear h g2 g3 g5 g6 DI2 DI3 hend hin2 h4
        go_wp2_with fail
        go_quiet (fail)
        go_wp2
        go_roundw
        case rel => exact ⟨k + 1, by go_num, by omega, hid (below_drewN B.out nq), hid (BoxAt.drewN KC.out nq), hid (BoxAt.drewN KT.out nq)⟩
        case measure => simp [intOf]; omega
      · have h1 : 9 < y.op := by omega
        have h1' : 2 ≤ y.op := by omega
        have hw : IntKind.i64.wrap ((k : Int) + 1) = (k : Int) + 1 := by first | (rw [IntKind.wrap_i64]; omega) | go_num
        have h4 : inside c.secs (i : Int) (IntKind.i64.wrap ((k : Int) + 1)) = y.n := by rw [hw]; exact g6.out h
        rw [h4] at DI2
        clear hw
        have m1 : (y.op == 13) = false := by simp only [beq_eq_false_iff_ne]; omega
        have m2 : (y.op == 14) = false := by simp only [beq_eq_false_iff_ne]; omega
        have m3 : (y.op == 17) = false := by simp only [beq_eq_false_iff_ne]; omega
        have m4 : (y.op == 16) = false := by simp only [beq_eq_false_iff_ne]; omega
        have m5 : (y.op == 15) = true := by simp only [beq_iff_eq]; omega
        have m6 : ((k : Int) + 1 == (nc : Int)) = false := by rcases hend with e | e; (rw [e.1] at m3; cases m3); exact e.2
        clear h g2 g3 g5 g6 DI3 hend hin2 h4
        go_wp2_with fail
        clear f0 f1 f2 f3 f4 f5 f6 f7 s1 c0 c1 c2 c3 c4
        refine wp_region_held_drew (S := fun (w' : World) => w'.cell? ⟨w.heap.size, 0, none⟩ = some (.slice a0 c.recs.length p0) ∧ w'.cell? ⟨w.heap.size, 1, none⟩ = some (.slice a1 c.globs.length p1) ∧ w'.cell? ⟨w.heap.size, 2, none⟩ = some (.slice (some ⟨bt, ot, none⟩) n2 p2) ∧ w'.cell? ⟨w.heap.size, 3, none⟩ = some (.slice a3 c.sites.length p3) ∧ w'.cell? ⟨w.heap.size, 4, none⟩ = some (.slice a4 c.secs.length p4) ∧ w'.cell? ⟨xb, 0, none⟩ = some (.int .i64 y.op) ∧ w'.cell? ⟨xb, 1, none⟩ = some (.int .i64 y.dst) ∧ w'.cell? ⟨xb, 2, none⟩ = some (.int .i64 y.src) ∧ w'.cell? ⟨xb, 3, none⟩ = some (.int .i64 y.rc) ∧ w'.cell? ⟨xb, 4, none⟩ = some (.int .i64 y.n) ∧ w'.cell? ⟨xb, 5, none⟩ = some (.int .i64 y.to) ∧ w'.cell? ⟨xb, 6, none⟩ = some (.slice a7 y.items.length p7) ∧ w'.cell? ⟨xb, 7, none⟩ = some (.slice a8 y.index.length p8)) (by kernel_rfl) (s13 KC.out.drew KX.out.drew) (fun hHeld => ?_)
        refine wpAnyH_take (i := 0) (oi := { dst := some 89, op := Go.Op.fieldAddr 33 (Go.Operand.tmp 6) 0, type := 0, pos := "law.go:60", after := #[], guard := none }) (v := ?_) rfl (by kernel_rfl) (by kernel_rfl) (by kernel_rfl) (fun _ _ _ h => h) (Or.inl ⟨by rfl, ?_⟩) hHeld ?_
        rotate_left
        · intro w0 hSw; (try dsimp only at hSw); go_simp; (try with_reducible rfl)
        try simp only [Act.put, List.setIfInBounds_toArray, List.set_cons_zero, List.set_cons_succ]
        refine wpAnyH_take (i := 1) (oi := { dst := some 90, op := Go.Op.load 3 (Go.Operand.tmp 89), type := 3, pos := "law.go:60", after := #[{ on := 0, ground := Go.Ground.data }], guard := none }) (v := ?_) rfl (by kernel_rfl) (by kernel_rfl) (by kernel_rfl) (fun _ _ _ h => h) (Or.inl ⟨by rfl, ?_⟩) hHeld ?_
        rotate_left
        · intro w0 hSw; (try dsimp only at hSw); go_simp; (try with_reducible rfl)
        try simp only [Act.put, List.setIfInBounds_toArray, List.set_cons_zero, List.set_cons_succ]
        refine wpAnyH_take (i := 2) (oi := { dst := some 91, op := Go.Op.binOp Go.BinOp.eql 3 (Go.Operand.tmp 90) (Go.Operand.const (Go.Value.int Go.IntKind.i64 16)) 3, type := 4, pos := "law.go:60", after := #[{ on := 1, ground := Go.Ground.data }], guard := none }) (v := ?_) rfl (by kernel_rfl) (by kernel_rfl) (by kernel_rfl) (fun _ _ _ h => h) (Or.inl ⟨by rfl, ?_⟩) hHeld ?_
        rotate_left
        · intro w0 hSw; (try dsimp only at hSw); go_simp; (try with_reducible rfl)
        try simp only [Act.put, List.setIfInBounds_toArray, List.set_cons_zero, List.set_cons_succ]
        refine wpAnyH_take (i := 3) (oi := { dst := some 92, op := Go.Op.move (Go.Operand.tmp 91), type := 4, pos := "law.go:60", after := #[{ on := 2, ground := Go.Ground.data }], guard := none }) (v := ?_) rfl (by kernel_rfl) (by kernel_rfl) (by kernel_rfl) (fun _ _ _ h => h) (Or.inl ⟨by rfl, ?_⟩) hHeld ?_
        rotate_left
        · intro w0 hSw; (try dsimp only at hSw); go_simp; (try with_reducible rfl)
        try simp only [Act.put, List.setIfInBounds_toArray, List.set_cons_zero, List.set_cons_succ]
        refine wpAnyH_take (i := 4) (oi := { dst := some 93, op := Go.Op.move (Go.Operand.tmp 7), type := 3, pos := "law.go:60", after := #[{ on := 3, ground := Go.Ground.guard }], guard := some (3, true) }) (v := undef) rfl (by kernel_rfl) (by kernel_rfl) (by kernel_rfl) (fun _ _ _ h => h) (Or.inr ⟨by rfl, rfl⟩) hHeld ?_
        try simp only [Act.put, List.setIfInBounds_toArray, List.set_cons_zero, List.set_cons_succ]
        refine wpAnyH_take (i := 5) (oi := { dst := some 94, op := Go.Op.fieldAddr 33 (Go.Operand.tmp 6) 4, type := 0, pos := "law.go:60", after := #[{ on := 3, ground := Go.Ground.guard }], guard := some (3, true) }) (v := undef) rfl (by kernel_rfl) (by kernel_rfl) (by kernel_rfl) (fun _ _ _ h => h) (Or.inr ⟨by rfl, rfl⟩) hHeld ?_
        try simp only [Act.put, List.setIfInBounds_toArray, List.set_cons_zero, List.set_cons_succ]
        refine wpAnyH_take (i := 6) (oi := { dst := some 95, op := Go.Op.load 3 (Go.Operand.tmp 94), type := 3, pos := "law.go:60", after := #[{ on := 5, ground := Go.Ground.data }, { on := 3, ground := Go.Ground.guard }], guard := some (3, true) }) (v := undef) rfl (by kernel_rfl) (by kernel_rfl) (by kernel_rfl) (fun _ _ _ h => h) (Or.inr ⟨by rfl, rfl⟩) hHeld ?_
        try simp only [Act.put, List.setIfInBounds_toArray, List.set_cons_zero, List.set_cons_succ]
        refine wpAnyH_take (i := 7) (oi := { dst := some 96, op := Go.Op.binOp Go.BinOp.neq 3 (Go.Operand.tmp 93) (Go.Operand.tmp 95) 3, type := 4, pos := "law.go:60", after := #[{ on := 4, ground := Go.Ground.data }, { on := 6, ground := Go.Ground.data }, { on := 3, ground := Go.Ground.guard }], guard := some (3, true) }) (v := undef) rfl (by kernel_rfl) (by kernel_rfl) (by kernel_rfl) (fun _ _ _ h => h) (Or.inr ⟨by rfl, rfl⟩) hHeld ?_
        try simp only [Act.put, List.setIfInBounds_toArray, List.set_cons_zero, List.set_cons_succ]
        refine wpAnyH_take (i := 8) (oi := { dst := some 97, op := Go.Op.pick (Go.Operand.tmp 92) (Go.Operand.tmp 96) (Go.Operand.const (Go.Value.bool false)), type := 4, pos := "law.go:60", after := #[{ on := 3, ground := Go.Ground.data }, { on := 7, ground := Go.Ground.data }], guard := none }) (v := ?_) rfl (by kernel_rfl) (by kernel_rfl) (by kernel_rfl) (fun _ _ _ h => h) (Or.inl ⟨by rfl, ?_⟩) hHeld ?_
        rotate_left
        · intro w0 hSw; (try dsimp only at hSw); go_simp; (try with_reducible rfl)
        try simp only [Act.put, List.setIfInBounds_toArray, List.set_cons_zero, List.set_cons_succ]
        refine wpAnyH_take (i := 9) (oi := { dst := some 98, op := Go.Op.move (Go.Operand.tmp 97), type := 4, pos := "law.go:60", after := #[{ on := 8, ground := Go.Ground.data }, { on := 3, ground := Go.Ground.chain }], guard := none }) (v := ?_) rfl (by kernel_rfl) (by kernel_rfl) (by kernel_rfl) (fun _ _ _ h => h) (Or.inl ⟨by rfl, ?_⟩) hHeld ?_
        rotate_left
        · intro w0 hSw; (try dsimp only at hSw); go_simp; (try with_reducible rfl)
        try simp only [Act.put, List.setIfInBounds_toArray, List.set_cons_zero, List.set_cons_succ]
        refine wpAnyH_take (i := 10) (oi := { dst := some 99, op := Go.Op.fieldAddr 33 (Go.Operand.tmp 6) 0, type := 0, pos := "law.go:60", after := #[{ on := 9, ground := Go.Ground.guard }], guard := some (9, false) }) (v := ?_) rfl (by kernel_rfl) (by kernel_rfl) (by kernel_rfl) (fun _ _ _ h => h) (Or.inl ⟨by rfl, ?_⟩) hHeld ?_
        rotate_left
        · intro w0 hSw; (try dsimp only at hSw); go_simp; (try with_reducible rfl)
        try simp only [Act.put, List.setIfInBounds_toArray, List.set_cons_zero, List.set_cons_succ]
        refine wpAnyH_take (i := 11) (oi := { dst := some 100, op := Go.Op.load 3 (Go.Operand.tmp 99), type := 3, pos := "law.go:60", after := #[{ on := 10, ground := Go.Ground.data }, { on := 9, ground := Go.Ground.guard }], guard := some (9, false) }) (v := ?_) rfl (by kernel_rfl) (by kernel_rfl) (by kernel_rfl) (fun _ _ _ h => h) (Or.inl ⟨by rfl, ?_⟩) hHeld ?_
        rotate_left
        · intro w0 hSw; (try dsimp only at hSw); go_simp; (try with_reducible rfl)
        try simp only [Act.put, List.setIfInBounds_toArray, List.set_cons_zero, List.set_cons_succ]
        refine wpAnyH_take (i := 12) (oi := { dst := some 101, op := Go.Op.binOp Go.BinOp.eql 3 (Go.Operand.tmp 100) (Go.Operand.const (Go.Value.int Go.IntKind.i64 15)) 3, type := 4, pos := "law.go:60", after := #[{ on := 11, ground := Go.Ground.data }, { on := 9, ground := Go.Ground.guard }], guard := some (9, false) }) (v := ?_) rfl (by kernel_rfl) (by kernel_rfl) (by kernel_rfl) (fun _ _ _ h => h) (Or.inl ⟨by rfl, ?_⟩) hHeld ?_
        rotate_left
        · intro w0 hSw; (try dsimp only at hSw); go_simp; (try with_reducible rfl)
        try simp only [Act.put, List.setIfInBounds_toArray, List.set_cons_zero, List.set_cons_succ]
        refine wpAnyH_take (i := 13) (oi := { dst := some 102, op := Go.Op.move (Go.Operand.tmp 101), type := 4, pos := "law.go:60", after := #[{ on := 12, ground := Go.Ground.data }, { on := 9, ground := Go.Ground.chain }, { on := 9, ground := Go.Ground.guard }], guard := some (9, false) }) (v := ?_) rfl (by kernel_rfl) (by kernel_rfl) (by kernel_rfl) (fun _ _ _ h => h) (Or.inl ⟨by rfl, ?_⟩) hHeld ?_
        rotate_left
        · intro w0 hSw; (try dsimp only at hSw); go_simp; (try with_reducible rfl)
        try simp only [Act.put, List.setIfInBounds_toArray, List.set_cons_zero, List.set_cons_succ]
        refine wpAnyH_take (i := 14) (oi := { dst := some 103, op := Go.Op.load 28 (Go.Operand.tmp 1), type := 28, pos := "law.go:60", after := #[{ on := 13, ground := Go.Ground.guard }], guard := some (13, true) }) (v := ?_) rfl (by kernel_rfl) (by kernel_rfl) (by kernel_rfl) (fun _ _ _ h => h) (Or.inl ⟨by rfl, ?_⟩) hHeld ?_
        rotate_left
        · intro w0 hSw; (try dsimp only at hSw); go_simp; (try with_reducible rfl)
        try simp only [Act.put, List.setIfInBounds_toArray, List.set_cons_zero, List.set_cons_succ]
        refine wpAnyH_take (i := 15) (oi := { dst := some 104, op := Go.Op.move (Go.Operand.tmp 3), type := 3, pos := "law.go:60", after := #[{ on := 13, ground := Go.Ground.guard }], guard := some (13, true) }) (v := ?_) rfl (by kernel_rfl) (by kernel_rfl) (by kernel_rfl) (fun _ _ _ h => h) (Or.inl ⟨by rfl, ?_⟩) hHeld ?_
        rotate_left
        · intro w0 hSw; (try dsimp only at hSw); go_simp; (try with_reducible rfl)
        try simp only [Act.put, List.setIfInBounds_toArray, List.set_cons_zero, List.set_cons_succ]
        refine wpAnyH_take (i := 16) (oi := { dst := some 105, op := Go.Op.move (Go.Operand.tmp 5), type := 3, pos := "law.go:60", after := #[{ on := 13, ground := Go.Ground.guard }], guard := some (13, true) }) (v := ?_) rfl (by kernel_rfl) (by kernel_rfl) (by kernel_rfl) (fun _ _ _ h => h) (Or.inl ⟨by rfl, ?_⟩) hHeld ?_
        rotate_left
        · intro w0 hSw; (try dsimp only at hSw); go_simp; (try with_reducible rfl)
        try simp only [Act.put, List.setIfInBounds_toArray, List.set_cons_zero, List.set_cons_succ]
        refine wpAnyH_take (i := 17) (oi := { dst := some 106, op := Go.Op.binOp Go.BinOp.add 3 (Go.Operand.tmp 105) (Go.Operand.const (Go.Value.int Go.IntKind.i64 1)) 3, type := 3, pos := "law.go:60", after := #[{ on := 16, ground := Go.Ground.data }, { on := 13, ground := Go.Ground.guard }], guard := some (13, true) }) (v := ?_) rfl (by kernel_rfl) (by kernel_rfl) (by kernel_rfl) (fun _ _ _ h => h) (Or.inl ⟨by rfl, ?_⟩) hHeld ?_
        rotate_left
        · intro w0 hSw; (try dsimp only at hSw); go_simp; (try with_reducible rfl)
        try simp only [Act.put, List.setIfInBounds_toArray, List.set_cons_zero, List.set_cons_succ]
        refine wpAnyH_take (i := 19) (oi := { dst := some 108, op := Go.Op.fieldAddr 33 (Go.Operand.tmp 6) 4, type := 0, pos := "law.go:60", after := #[{ on := 13, ground := Go.Ground.guard }], guard := some (13, true) }) (v := ?_) rfl (by kernel_rfl) (by kernel_rfl) (by kernel_rfl) (fun _ _ _ h => h) (Or.inl ⟨by rfl, ?_⟩) hHeld ?_
        rotate_left
        · intro w0 hSw; (try dsimp only at hSw); go_simp; (try with_reducible rfl)
        try simp only [Act.put, List.setIfInBounds_toArray, List.set_cons_zero, List.set_cons_succ]
        refine wpAnyH_take (i := 20) (oi := { dst := some 109, op := Go.Op.load 3 (Go.Operand.tmp 108), type := 3, pos := "law.go:60", after := #[{ on := 19, ground := Go.Ground.data }, { on := 13, ground := Go.Ground.guard }], guard := some (13, true) }) (v := ?_) rfl (by kernel_rfl) (by kernel_rfl) (by kernel_rfl) (fun _ _ _ h => h) (Or.inl ⟨by rfl, ?_⟩) hHeld ?_
        rotate_left
        · intro w0 hSw; (try dsimp only at hSw); go_simp; (try with_reducible rfl)
        try simp only [Act.put, List.setIfInBounds_toArray, List.set_cons_zero, List.set_cons_succ]
        refine wpAnyH_ready (rs := [18]) (by kernel_rfl) (by simp) ?_
        refine AllReadyH.cons (o := { dst := some 107, op := Go.Op.call { callee := Go.Callee.value (Go.Operand.func 11), args := #[Go.Operand.tmp 103, Go.Operand.tmp 104, Go.Operand.tmp 106], argTypes := #[28, 3, 3] }, type := 3, pos := "law.go:60", after := #[{ on := 14, ground := Go.Ground.data }, { on := 15, ground := Go.Ground.data }, { on := 17, ground := Go.Ground.data }, { on := 13, ground := Go.Ground.chain }, { on := 13, ground := Go.Ground.guard }], guard := some (13, true) }) rfl (fun K' hK' => ?_) AllReadyH.nil
        go_simp
        have B9 := hid B.out.drew
        have KC9 := hid KC.out.drew
        have KX9 := hid KX.out.drew
        replace B := B9
        replace KC := KC9
        replace KX := KX9
        clear B9 KC9 KX9
        go_at_call 11
        refine Calls.mono (DI2.out _ B.out) ?_
        rintro e y1 ⟨rfl, hb⟩
        replace B := hid (B.out.trans (hb.mono B.out.size))
        replace KT := hid (KT.out.drew.kept hb)
        replace KC := hid (KC.out.kept hb)
        replace KX := hid (KX.out.kept hb)
        clear hb
        have hz := hid (s13 KC.out KX.out)
        refine hK'.out _ _ hz.out (fun hHeld => ?_)
        clear hK' K'
        try simp only [Act.put, List.setIfInBounds_toArray, List.set_cons_zero, List.set_cons_succ]
        refine wpAnyH_take (i := 21) (oi := { dst := some 110, op := Go.Op.binOp Go.BinOp.neq 3 (Go.Operand.tmp 107) (Go.Operand.tmp 109) 3, type := 4, pos := "law.go:60", after := #[{ on := 18, ground := Go.Ground.data }, { on := 20, ground := Go.Ground.data }, { on := 13, ground := Go.Ground.guard }], guard := some (13, true) }) (v := ?_) rfl (by kernel_rfl) (by kernel_rfl) (by kernel_rfl) (fun _ _ _ h => h) (Or.inl ⟨by rfl, ?_⟩) hHeld ?_
        rotate_left
        · intro w0 hSw; (try dsimp only at hSw); go_simp; (try with_reducible rfl)
        try simp only [Act.put, List.setIfInBounds_toArray, List.set_cons_zero, List.set_cons_succ]
        refine wpAnyH_take (i := 22) (oi := { dst := some 111, op := Go.Op.pick (Go.Operand.tmp 102) (Go.Operand.tmp 110) (Go.Operand.const (Go.Value.bool false)), type := 4, pos := "law.go:60", after := #[{ on := 13, ground := Go.Ground.data }, { on := 21, ground := Go.Ground.data }, { on := 9, ground := Go.Ground.guard }], guard := some (9, false) }) (v := ?_) rfl (by kernel_rfl) (by kernel_rfl) (by kernel_rfl) (fun _ _ _ h => h) (Or.inl ⟨by rfl, ?_⟩) hHeld ?_
        rotate_left
        · intro w0 hSw; (try dsimp only at hSw); go_simp; (try with_reducible rfl)
        try simp only [Act.put, List.setIfInBounds_toArray, List.set_cons_zero, List.set_cons_succ]
        refine wpAnyH_take (i := 23) (oi := { dst := some 112, op := Go.Op.pick (Go.Operand.tmp 98) (Go.Operand.const (Go.Value.bool true)) (Go.Operand.tmp 111), type := 4, pos := "law.go:60", after := #[{ on := 9, ground := Go.Ground.data }, { on := 22, ground := Go.Ground.data }], guard := none }) (v := ?_) rfl (by kernel_rfl) (by kernel_rfl) (by kernel_rfl) (fun _ _ _ h => h) (Or.inl ⟨by rfl, ?_⟩) hHeld ?_
        rotate_left
        · intro w0 hSw; (try dsimp only at hSw); go_simp; (try with_reducible rfl)
        try simp only [Act.put, List.setIfInBounds_toArray, List.set_cons_zero, List.set_cons_succ]
        refine wpAnyH_done (by kernel_rfl) ?_ _
        clear hHeld
        go_wp2
        go_roundw
        case rel => exact ⟨k + 1, by go_num, by omega, B, KC, KT⟩
        case measure => simp [intOf]; omega
      · have h1 : 9 < y.op := by omega
        have h1' : 2 ≤ y.op := by omega
        have m1 : (y.op == 13) = false := by simp only [beq_eq_false_iff_ne]; omega
        have m2 : (y.op == 14) = false := by simp only [beq_eq_false_iff_ne]; omega
        have m3 : (y.op == 17) = true := by simp only [beq_iff_eq]; omega
        have m4 : (y.op == 16) = false := by simp only [beq_eq_false_iff_ne]; omega
        have m5 : (y.op == 15) = false := by simp only [beq_eq_false_iff_ne]; omega
        have m6 : ((k : Int) + 1 == (nc : Int)) = true := by rcases hend with e | e; exact e.2; (rw [e.1] at m3; cases m3)
        clear h g2 g3 g5 g6 DI2 DI3 hend hin2
        go_wp2_with fail
        go_quiet (fail)
        go_wp2
        go_roundw
        case rel => exact ⟨k + 1, by go_num, by omega, hid (below_drewN B.out nq), hid (BoxAt.drewN KC.out nq), hid (BoxAt.drewN KT.out nq)⟩
        case measure => simp [intOf]; omega
      · have h1 : y.op < 2 ∨ (2 ≤ y.op ∧ 9 < y.op) := by omega
        have m1 : (y.op == 13) = false := by simp only [beq_eq_false_iff_ne]; omega
        have m2 : (y.op == 14) = false := by simp only [beq_eq_false_iff_ne]; omega
        have m3 : (y.op == 17) = false := by simp only [beq_eq_false_iff_ne]; omega
        have m4 : (y.op == 16) = false := by simp only [beq_eq_false_iff_ne]; omega
        have m5 : (y.op == 15) = false := by simp only [beq_eq_false_iff_ne]; omega
        have m6 : ((k : Int) + 1 == (nc : Int)) = false := by rcases hend with e | e; (rw [e.1] at m3; cases m3); exact e.2
        clear h g2 g3 g5 g6 DI2 DI3 hend hin2
        rcases h1 with h1 | ⟨h1, h1'⟩
        all_goals
          go_wp2_with fail
          go_quiet (fail)
          go_wp2
          go_roundw
          case rel => exact ⟨k + 1, by go_num, by omega, hid (below_drewN B.out nq), hid (BoxAt.drewN KC.out nq), hid (BoxAt.drewN KT.out nq)⟩
          case measure => simp [intOf]; omega

set_option maxRecDepth 100000 in
theorem lifted (os : Os) (started : os.Started) (H : Type) (enc : TypeId × Value → H) :
    ReturnsInHanded {} Try.checked os 5 .any (Rows.codeGuardsSpec.pre6 enc Try.prog Try.f5 Rows.codeGuardsRow.domain false) (Rows.codeGuardsSpec.post enc Try.prog Try.f5 false true false false) := by
  refine returnsInHanded_of_change (C := Try.checked) own started (by kernel_rfl) Try.func5
    (ChangeSpec.witness6 (enc := enc) (C := Try.checked) false ⟨#[], #[.agg #[.slice none 0 0, .slice none 0 0, .slice none 0 0, .slice none 0 0, .slice none 0 0]], []⟩ 8 (by kernel_rfl) (by kernel_rfl) (by kernel_rfl) (by kernel_rfl)) ?_
  intro W base args ds gs before hval0 hW hcnd _
  have hval : ∀ (j : Nat) t v, Try.f5.params[j]? = some t → args[j]? = some v → Value.okWide Try.prog W .any base t v := hval0
  have hW' := hW
  obtain ⟨p, q, hA0, hV, rfl, hfz, hnd⟩ := hW
  have hA : DataW.TrodAll enc Try.prog W 0 (fun _ => true) true Try.f5.params.toList args.toList ds p := hA0
  rw [Try.params5] at hA hval
  obtain ⟨v0, vs0, d0, ds0, p0, q0, hargs, rfl, rfl, h0, r0⟩ := trodAll_cons hA
  obtain ⟨rfl, rfl, rfl⟩ := trodAll_nil r0
  obtain rfl : args = #[v0] := by cases args; simp_all
  obtain ⟨rfl, rfl⟩ := trodVars_none hV
  have k0 := h0
  have lt0 : ∀ x ∈ p0, x.block < W.heap.size := by obtain ⟨m, hm⟩ := k0; exact DataW.trod_lt m _ _ _ hm
  obtain ⟨x0, w0⟩ := open28 (hval 0 28 v0 rfl rfl) h0
  clear hA0 hval0
  refine (walk v0 x0 W w0).mono fun e W' ⟨he, bel⟩ => ?_
  subst he
  exact ⟨_, rfl, _, _, _, [], _, [], hW', trodAll_mk1 (shut_bool Try.underlying4 _), (trodAll_cons_mk (Below.trod laidOut (by kernel_rfl) (of_decide_eq_true (by kernel_rfl)) k0 bel lt0) trodAll_mk0), rfl, bel.frame _, fun h => by cases h⟩

theorem over : Rows.codeGuardsRow.holds Try.pinned (OpenSpec.ofChange Rows.codeGuardsSpec) :=
  OpenClaim.holds_of_wide 5 Try.f5 rfl rfl rfl rfl rfl rfl rfl ⟨rfl, rfl, rfl, rfl, rfl⟩ rfl rfl rfl rfl rfl (by kernel_rfl) Try.func5 (by kernel_rfl)
    (of_decide_eq_true (by kernel_rfl)) (by unfold Func.isWrapper; first | (rw [if_pos (by decide +kernel)]; kernel_rfl) | (rw [if_neg (by decide +kernel)]; exact ⟨rfl, rfl⟩))
    (fun os started H enc _ => lifted os started H enc)

theorem proved : Rows.CodeGuardsSaid :=
  over
end Go.Proofs.Ytjjfhjelkioehaa.codeGuards
