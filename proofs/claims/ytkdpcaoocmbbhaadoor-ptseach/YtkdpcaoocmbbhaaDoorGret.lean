/- Contract of the document's Great: a code of which it says no isn't too great. -/
import Derived.Test.YtkdpcaoocmbbhaaDoorGdC
namespace Go.Proofs.YtkdpcaoocmbbhaaDoor
open Go.ChangeShapes Go.WideShapes Go.ChangeAt Go.RowKit
set_option linter.unusedVariables false
set_option linter.unusedSimpArgs false

def AnsG (c : Cd) (w : World) (e : Ending) (w' : World) : Prop := ∃ q, e = .returned (.bool q) ∧ (q = false → SmallP c) ∧ Below w.heap.size w w'
theorem exG {c : Cd} {w w' : World} (h : Below w.heap.size w w') : AnsG c w (.returned (.bool true)) w' := ⟨true, rfl, (fun k => by cases k), h⟩
theorem exGN {c : Cd} {w w' : World} (k : SmallP c) (h : Below w.heap.size w w') : AnsG c w (.returned (.bool false)) w' := ⟨false, rfl, (fun _ => k), h⟩

def smallI (x : Ins) : Prop := x.items.length ≤ 200 ∧ x.index.length ≤ 200
def smallT (t : Bd) : Prop := t.slots.length ≤ 300 ∧ t.code.length ≤ 600 ∧ ∀ (k : Nat) (x : Ins), t.code[k]? = some x → smallI x

set_option maxRecDepth 100000 in
set_option maxHeartbeats 2000000 in
theorem great_any (c : Cd) (w : World) (hc : c.okW w) : Calls Tryd.prog 9 #[.agg #[c.rv, c.gv, c.tv, c.ev, c.cv]] w (AnsG c w) := by
  obtain ⟨a0, p0, a1, p1, a2, p2, a3, p3, a4, p4, e0, e1, e2, e3, e4⟩ := cd_open hc
  obtain ⟨ar, cr, er, hR⟩ := hc.1.at
  obtain ⟨at', ct, et, hT⟩ := bd_cells hc.2.2.1
  rw [e0] at er; cases er
  rw [e2] at et; cases et
  rw [e0, e1, e2, e3, e4]
  have B0 := (Below.refl w.heap.size w).alloc (Nat.le_refl _) (.cells #[.slice a0 c.recs.length p0, .slice a1 c.globs.length p1, .slice a2 c.threads.length p2, .slice a3 c.sites.length p3, .slice a4 c.secs.length p4] 28)
  have K := BoxAt.new w #[.slice a0 c.recs.length p0, .slice a1 c.globs.length p1, .slice a2 c.threads.length p2, .slice a3 c.sites.length p3, .slice a4 c.secs.length p4] 28
  clear e0 e1 e2 e3 e4 hc
  replace hR := hid hR
  replace hT := hid hT
  replace B0 := hid B0
  replace K := hid K
  generalize h0 : c.recs.length = n0 at *
  generalize h1 : c.globs.length = n1 at *
  generalize h2 : c.threads.length = n2 at *
  generalize h3 : c.sites.length = n3 at *
  generalize h4 : c.secs.length = n4 at *
  replace h0 := hid h0
  replace h1 := hid h1
  replace h2 := hid h2
  replace h3 := hid h3
  replace h4 := hid h4
  by_cases q0 : n0 ≤ 20
  rotate_left
  · have k := big q0
    clear hR hT K
    go_enter Tryd.func9, Tryd.ntmps9
    go_wp2
    go_ret
    exact exG B0.out
  by_cases q1 : n1 ≤ 100
  rotate_left
  · have k0 := low q0
    have k := big q1
    clear hR hT K
    go_enter Tryd.func9, Tryd.ntmps9
    go_wp2
    go_ret
    exact exG B0.out
  by_cases q2 : n2 ≤ 8
  rotate_left
  · have k0 := low q0
    have k1 := low q1
    have k := big q2
    clear hR hT K
    go_enter Tryd.func9, Tryd.ntmps9
    go_wp2
    go_ret
    exact exG B0.out
  by_cases q3 : n3 ≤ 100
  rotate_left
  · have k0 := low q0
    have k1 := low q1
    have k2 := low q2
    have k := big q3
    clear hR hT K
    go_enter Tryd.func9, Tryd.ntmps9
    go_wp2
    go_ret
    exact exG B0.out
  by_cases q4 : n4 ≤ 100
  rotate_left
  · have k0 := low q0
    have k1 := low q1
    have k2 := low q2
    have k3 := low q3
    have k := big q4
    clear hR hT K
    go_enter Tryd.func9, Tryd.ntmps9
    go_wp2
    go_ret
    exact exG B0.out
  have k0 := low q0
  have k1 := low q1
  have k2 := low q2
  have k3 := low q3
  have k4 := low q4
  go_enter Tryd.func9, Tryd.ntmps9
  go_wp2_with fail
  go_loopw [40] (fun t wr => ∃ j : Nat, t = .int .i64 j ∧ j ≤ n0 ∧ Hid (∀ (i : Nat) (r : Rl), i < j → c.recs[i]? = some r → r.flds.length ≤ 100) ∧ Hid (Below w.heap.size w wr) ∧ Hid (BoxAt wr w.heap.size [.slice a0 n0 p0, .slice a1 n1 p1, .slice a2 n2 p2, .slice a3 n3 p3, .slice a4 n4 p4])) (fun t _ => n0 - (intOf t).toNat)
  case atStart => exact ⟨0, rfl, by omega, hid (fun i x h => by omega), B0, K⟩
  case round =>
    clear B0 K
    obtain ⟨j, rfl, hj, E, B, K⟩ := hrel
    by_cases hjn : j < n0
    · obtain ⟨x, b, off, hx, rfl, hb, hr, ok⟩ := hR.out j hjn
      have c0 := (B.out.cell (p := ⟨b, off + j * 1 + 0, none⟩) hb).trans (hr 0 _ rfl)
      obtain ⟨ax, px, ex⟩ := ok.form
      rw [ex] at c0
      simp only [Nat.add_zero, Nat.mul_one] at c0
      replace hx := hid hx
      clear hr ok ex hR hT
      by_cases hl : x.flds.length ≤ 100
      · have kl := low hl
        go_wp2
        go_roundw
        case rel =>
          refine ⟨j + 1, by go_num, by omega, hid (fun i y hi hy => ?_), B, K⟩
          by_cases hij : i < j
          · exact E.out i y hij hy
          · obtain rfl : i = j := by omega
            rw [hx.out] at hy
            cases hy
            exact hl
        case measure => simp [intOf]; omega
      · have kl := big hl
        clear E K
        go_wp2
        go_ret
        exact exG B.out
    · have R1 : Hid (∀ (i : Nat) (r : Rl), c.recs[i]? = some r → r.flds.length ≤ 100) := hid (fun i r hr => E.out i r (by have := (List.getElem?_eq_some_iff.1 hr).1; have := h0.out; omega) hr)
      have d2 := K.out.2 2 _ rfl
      have hlt := K.out.1
      clear E hR K
      go_wp2_with fail
      go_loopw [51] (fun t wr => ∃ j : Nat, t = .int .i64 j ∧ j ≤ n2 ∧ Hid (∀ (i : Nat) (r : Bd), i < j → c.threads[i]? = some r → smallT r) ∧ Hid (Below w.heap.size w wr)) (fun t _ => n2 - (intOf t).toNat)
      case atStart => exact ⟨0, rfl, by omega, hid (fun i x h => by omega), B⟩
      case round =>
        clear B d2 hlt
        obtain ⟨i, rfl, hi, E, B⟩ := hrel
        by_cases hin : i < n2
        · obtain ⟨x, b, off, a5, p5, a6, p6, hx, rfl, hb, e5, e6, c0, c1, c2, ok⟩ := hT.out i hin
          rw [← B.out.cell hb] at c0 c1 c2
          obtain ⟨ai, ci, ei, hI⟩ := ins_cells ok.2.2
          rw [e6] at ei; cases ei
          have B2 := hid (B.out.alloc B.out.size (.cells #[.slice a5 x.slots.length p5, .slice a6 x.code.length p6, .int .i64 x.most] 40))
          replace hx := hid hx
          replace hI := hid hI
          clear e5 e6 ok hT
          by_cases hs1 : x.slots.length ≤ 300
          rotate_left
          · have k := big hs1
            clear hI E B
            go_wp2
            go_ret
            exact exG B2.out
          have ks1 := low hs1
          by_cases hs2 : x.code.length ≤ 600
          rotate_left
          · have k := big hs2
            clear hI E B
            go_wp2
            go_ret
            exact exG B2.out
          have ks2 := low hs2
          go_wp2_with fail
          go_loopw [68] (fun t wr' => ∃ k : Nat, t = .int .i64 k ∧ k ≤ x.code.length ∧ Hid (∀ (m : Nat) (y : Ins), m < k → x.code[m]? = some y → smallI y) ∧ Hid (Below w.heap.size w wr')) (fun t _ => x.code.length - (intOf t).toNat)
          case atStart => exact ⟨0, rfl, by omega, hid (fun i x h => by omega), B2⟩
          case round =>
            clear B B2 c0 c1 c2
            obtain ⟨k, rfl, hk, E3, B⟩ := hrel
            by_cases hkn : k < x.code.length
            · obtain ⟨y, b', off', a7, p7, a8, p8, hy, rfl, hb', e7, e8, ⟨d0, d1, d2, d3, d4, d5, d6, d7⟩, ok⟩ := hI.out k hkn
              rw [← B.out.cell hb'] at d0 d1 d2 d3 d4 d5 d6 d7
              have B2 := hid (B.out.alloc B.out.size (.cells #[.int .i64 y.op, .int .i64 y.dst, .int .i64 y.src, .int .i64 y.rc, .int .i64 y.n, .int .i64 y.to, .slice a7 y.items.length p7, .slice a8 y.index.length p8] 50))
              replace hy := hid hy
              clear e7 e8 ok hI
              by_cases g1 : y.items.length ≤ 200
              rotate_left
              · have k := big g1
                clear E3 B
                go_wp2
                go_ret
                exact exG B2.out
              have kg1 := low g1
              by_cases g2 : y.index.length ≤ 200
              rotate_left
              · have k := big g2
                clear E3 B
                go_wp2
                go_ret
                exact exG B2.out
              have kg2 := low g2
              go_wp2
              go_roundw
              case rel =>
                refine ⟨k + 1, by go_num, by omega, hid (fun m z hm hz => ?_), B2⟩
                by_cases hmk : m < k
                · exact E3.out m z hmk hz
                · obtain rfl : m = k := by omega
                  rw [hy.out] at hz
                  cases hz
                  exact ⟨g1, g2⟩
              case measure => simp [intOf]; omega
            · have R3 : Hid (smallT x) := hid ⟨hs1, hs2, fun m y hy => E3.out m y (by have := (List.getElem?_eq_some_iff.1 hy).1; omega) hy⟩
              clear E3 hI
              go_wp2
              go_roundw
              case rel =>
                refine ⟨i + 1, by go_num, by omega, hid (fun m z hm hz => ?_), B⟩
                by_cases hmk : m < i
                · exact E.out m z hmk hz
                · obtain rfl : m = i := by omega
                  rw [hx.out] at hz
                  cases hz
                  exact R3.out
              case measure => simp [intOf]; omega
        · have R2 : ∀ (i : Nat) (r : Bd), c.threads[i]? = some r → smallT r := fun i r hr => E.out i r (by have := (List.getElem?_eq_some_iff.1 hr).1; have := h2.out; omega) hr
          have S : Hid (SmallP c) := hid (by
            refine ⟨by rw [h0.out]; omega, by rw [h1.out]; omega, by rw [h2.out]; omega, by rw [h3.out]; omega, by rw [h4.out]; omega, fun i r hr => ?_, fun i t ht => ?_, fun i t ht => ?_, fun i t ht j x hx => ?_⟩
            · have := R1.out i r hr; omega
            · have := (R2 i t ht).1; omega
            · have := (R2 i t ht).2.1; omega
            · have := (R2 i t ht).2.2 j x hx; exact ⟨by have := this.1; omega, by have := this.2; omega⟩)
          clear E R1 R2 hT
          go_wp2
          go_ret
          exact exGN S.out B.out
end Go.Proofs.YtkdpcaoocmbbhaaDoor
