/- Stm, Gret, RinP -/
import Derived.Test.YtdpbapoahfggeaaDoorM10
import Derived.Test.YtdpbapoahfggeaaDoorM11
import Derived.Test.YtdpbapoahfggeaaDoorM03
import Derived.Test.YtdpbapoahfggeaaDoorM02
/- The document's Good: its statements, one by one. -/
namespace Go.Proofs.YtdpbapoahfggeaaDoor
open Go.ChangeShapes Go.WideShapes Go.ChangeAt Go.RowKit
set_option linter.unusedVariables false
set_option linter.unusedSimpArgs false

def spineC : Code → List Code
  | .seq a b => a :: spineC b
  | c => [c]

theorem fr_of (t : Array Value) (h : t.size = 324) : t = ((List.range 324).map fun k => t.getD k undef).toArray := by
  apply Array.ext
  · simp [h]
  · intro i h1 h2
    simp [h1]

set_option maxRecDepth 100000 in
theorem fr_open (a' : Act) (bc : Nat) (hs : a'.tmps.size = 324) (h1 : a'.tmps.getD 1 undef = .pointer (some ⟨bc, 0, none⟩)) (hd : a'.defers = []) :
    ∃ g : Nat → Value, a' = ⟨(g 0 :: .pointer (some ⟨bc, 0, none⟩) :: g 2 :: g 3 :: g 4 :: g 5 :: g 6 :: g 7 :: g 8 :: g 9 :: g 10 :: g 11 :: g 12 :: g 13 :: g 14 :: g 15 :: g 16 :: g 17 :: g 18 :: g 19 :: g 20 :: g 21 :: g 22 :: g 23 :: g 24 :: g 25 :: g 26 :: g 27 :: g 28 :: g 29 :: g 30 :: g 31 :: g 32 :: g 33 :: g 34 :: g 35 :: g 36 :: g 37 :: g 38 :: g 39 :: g 40 :: g 41 :: g 42 :: g 43 :: g 44 :: g 45 :: g 46 :: g 47 :: g 48 :: g 49 :: g 50 :: g 51 :: g 52 :: g 53 :: g 54 :: g 55 :: g 56 :: g 57 :: g 58 :: g 59 :: g 60 :: g 61 :: g 62 :: g 63 :: g 64 :: g 65 :: g 66 :: g 67 :: g 68 :: g 69 :: g 70 :: g 71 :: g 72 :: g 73 :: g 74 :: g 75 :: g 76 :: g 77 :: g 78 :: g 79 :: g 80 :: g 81 :: g 82 :: g 83 :: g 84 :: g 85 :: g 86 :: g 87 :: g 88 :: g 89 :: g 90 :: g 91 :: g 92 :: g 93 :: g 94 :: g 95 :: g 96 :: g 97 :: g 98 :: g 99 :: g 100 :: g 101 :: g 102 :: g 103 :: g 104 :: g 105 :: g 106 :: g 107 :: g 108 :: g 109 :: g 110 :: g 111 :: g 112 :: g 113 :: g 114 :: g 115 :: g 116 :: g 117 :: g 118 :: g 119 :: g 120 :: g 121 :: g 122 :: g 123 :: g 124 :: g 125 :: g 126 :: g 127 :: g 128 :: g 129 :: g 130 :: g 131 :: g 132 :: g 133 :: g 134 :: g 135 :: g 136 :: g 137 :: g 138 :: g 139 :: g 140 :: g 141 :: g 142 :: g 143 :: g 144 :: g 145 :: g 146 :: g 147 :: g 148 :: g 149 :: g 150 :: g 151 :: g 152 :: g 153 :: g 154 :: g 155 :: g 156 :: g 157 :: g 158 :: g 159 :: g 160 :: g 161 :: g 162 :: g 163 :: g 164 :: g 165 :: g 166 :: g 167 :: g 168 :: g 169 :: g 170 :: g 171 :: g 172 :: g 173 :: g 174 :: g 175 :: g 176 :: g 177 :: g 178 :: g 179 :: g 180 :: g 181 :: g 182 :: g 183 :: g 184 :: g 185 :: g 186 :: g 187 :: g 188 :: g 189 :: g 190 :: g 191 :: g 192 :: g 193 :: g 194 :: g 195 :: g 196 :: g 197 :: g 198 :: g 199 :: g 200 :: g 201 :: g 202 :: g 203 :: g 204 :: g 205 :: g 206 :: g 207 :: g 208 :: g 209 :: g 210 :: g 211 :: g 212 :: g 213 :: g 214 :: g 215 :: g 216 :: g 217 :: g 218 :: g 219 :: g 220 :: g 221 :: g 222 :: g 223 :: g 224 :: g 225 :: g 226 :: g 227 :: g 228 :: g 229 :: g 230 :: g 231 :: g 232 :: g 233 :: g 234 :: g 235 :: g 236 :: g 237 :: g 238 :: g 239 :: g 240 :: g 241 :: g 242 :: g 243 :: g 244 :: g 245 :: g 246 :: g 247 :: g 248 :: g 249 :: g 250 :: g 251 :: g 252 :: g 253 :: g 254 :: g 255 :: g 256 :: g 257 :: g 258 :: g 259 :: g 260 :: g 261 :: g 262 :: g 263 :: g 264 :: g 265 :: g 266 :: g 267 :: g 268 :: g 269 :: g 270 :: g 271 :: g 272 :: g 273 :: g 274 :: g 275 :: g 276 :: g 277 :: g 278 :: g 279 :: g 280 :: g 281 :: g 282 :: g 283 :: g 284 :: g 285 :: g 286 :: g 287 :: g 288 :: g 289 :: g 290 :: g 291 :: g 292 :: g 293 :: g 294 :: g 295 :: g 296 :: g 297 :: g 298 :: g 299 :: g 300 :: g 301 :: g 302 :: g 303 :: g 304 :: g 305 :: g 306 :: g 307 :: g 308 :: g 309 :: g 310 :: g 311 :: g 312 :: g 313 :: g 314 :: g 315 :: g 316 :: g 317 :: g 318 :: g 319 :: g 320 :: g 321 :: g 322 :: g 323 :: []).toArray, []⟩ := by
  refine ⟨fun k => a'.tmps.getD k undef, ?_⟩
  obtain ⟨t, d⟩ := a'
  simp only at *
  subst hd
  rw [← h1]
  have e := fr_of t hs
  congr 1
end Go.Proofs.YtdpbapoahfggeaaDoor
/- Contract of the document's Great: a code of which it says no isn't too great. -/
namespace Go.Proofs.YtdpbapoahfggeaaDoor
open Go.ChangeShapes Go.WideShapes Go.ChangeAt Go.RowKit
set_option linter.unusedVariables false
set_option linter.unusedSimpArgs false

def AnsG (c : Cd) (w : World) (e : Ending) (w' : World) : Prop := ∃ q, e = .returned (.bool q) ∧ (q = false → SmallP c) ∧ Below w.heap.size w w'
theorem exG {c : Cd} {w w' : World} (h : Below w.heap.size w w') : AnsG c w (.returned (.bool true)) w' := ⟨true, rfl, (fun k => by cases k), h⟩
theorem exGN {c : Cd} {w w' : World} (k : SmallP c) (h : Below w.heap.size w w') : AnsG c w (.returned (.bool false)) w' := ⟨false, rfl, (fun _ => k), h⟩

def smallI (x : Ins) : Prop := x.items.length ≤ 200 ∧ x.index.length ≤ 200
def smallT (t : Bd) : Prop := t.slots.length ≤ 300 ∧ t.code.length ≤ 600 ∧ ∀ (k : Nat) (x : Ins), t.code[k]? = some x → smallI x

set_option maxRecDepth 100000 in
set_option maxHeartbeats 2000000 in
theorem great_any (c : Cd) (w : World) (hc : c.okW w) : Calls Tryd.prog 13 #[.agg #[c.rv, c.gv, c.tv, c.ev, c.cv]] w (AnsG c w) := by
  obtain ⟨a0, p0, a1, p1, a2, p2, a3, p3, a4, p4, e0, e1, e2, e3, e4⟩ := cd_open hc
  obtain ⟨ar, cr, er, hR⟩ := hc.1.at
  obtain ⟨at', ct, et, hT⟩ := bd_cells hc.2.2.1
  rw [e0] at er; cases er
  rw [e2] at et; cases et
  rw [e0, e1, e2, e3, e4]
  have B0 := (Below.refl w.heap.size w).alloc (Nat.le_refl _) (.cells #[.slice a0 c.recs.length p0, .slice a1 c.globs.length p1, .slice a2 c.threads.length p2, .slice a3 c.sites.length p3, .slice a4 c.secs.length p4] 41)
  have K := BoxAt.new w #[.slice a0 c.recs.length p0, .slice a1 c.globs.length p1, .slice a2 c.threads.length p2, .slice a3 c.sites.length p3, .slice a4 c.secs.length p4] 41
  clear e0 e1 e2 e3 e4 hc
  replace hR := hid hR
  replace hT := hid hT
  replace B0 := hid B0
  replace K := hid K
  generalize h0 : c.recs.length = n0 at *
  generalize h1 : c.globs.length = n1 at *
  generalize h2 : c.threads.length = n2 at *
  generalize h3 : c.sites.length = n3 at *
  generalize h4 : c.secs.length = n4 at *
  replace h0 := hid h0
  replace h1 := hid h1
  replace h2 := hid h2
  replace h3 := hid h3
  replace h4 := hid h4
  by_cases q0 : n0 ≤ 20
  rotate_left
  · have k := big q0
    clear hR hT K
    go_enter Tryd.func13, Tryd.ntmps13
    go_wp2
    go_ret
    exact exG B0.out
  by_cases q1 : n1 ≤ 100
  rotate_left
  · have k0 := low q0
    have k := big q1
    clear hR hT K
    go_enter Tryd.func13, Tryd.ntmps13
    go_wp2
    go_ret
    exact exG B0.out
  by_cases q2 : n2 ≤ 8
  rotate_left
  · have k0 := low q0
    have k1 := low q1
    have k := big q2
    clear hR hT K
    go_enter Tryd.func13, Tryd.ntmps13
    go_wp2
    go_ret
    exact exG B0.out
  by_cases q3 : n3 ≤ 100
  rotate_left
  · have k0 := low q0
    have k1 := low q1
    have k2 := low q2
    have k := big q3
    clear hR hT K
    go_enter Tryd.func13, Tryd.ntmps13
    go_wp2
    go_ret
    exact exG B0.out
  by_cases q4 : n4 ≤ 100
  rotate_left
  · have k0 := low q0
    have k1 := low q1
    have k2 := low q2
    have k3 := low q3
    have k := big q4
    clear hR hT K
    go_enter Tryd.func13, Tryd.ntmps13
    go_wp2
    go_ret
    exact exG B0.out
  have k0 := low q0
  have k1 := low q1
  have k2 := low q2
  have k3 := low q3
  have k4 := low q4
  go_enter Tryd.func13, Tryd.ntmps13
  go_wp2_with fail
  go_loopw [40] (fun t wr => ∃ j : Nat, t = .int .i64 j ∧ j ≤ n0 ∧ Hid (∀ (i : Nat) (r : Rl), i < j → c.recs[i]? = some r → r.flds.length ≤ 100) ∧ Hid (Below w.heap.size w wr) ∧ Hid (BoxAt wr w.heap.size [.slice a0 n0 p0, .slice a1 n1 p1, .slice a2 n2 p2, .slice a3 n3 p3, .slice a4 n4 p4])) (fun t _ => n0 - (intOf t).toNat)
  case atStart => exact ⟨0, rfl, by omega, hid (fun i x h => by omega), B0, K⟩
  case round =>
    clear B0 K
    obtain ⟨j, rfl, hj, E, B, K⟩ := hrel
    by_cases hjn : j < n0
    · obtain ⟨x, b, off, hx, rfl, hb, hr, ok⟩ := hR.out j hjn
      have c0 := (B.out.cell (p := ⟨b, off + j * 1 + 0, none⟩) hb).trans (hr 0 _ rfl)
      obtain ⟨ax, px, ex⟩ := ok.form
      rw [ex] at c0
      simp only [Nat.add_zero, Nat.mul_one] at c0
      replace hx := hid hx
      clear hr ok ex hR hT
      by_cases hl : x.flds.length ≤ 100
      · have kl := low hl
        go_wp2
        go_roundw
        case rel =>
          refine ⟨j + 1, by go_num, by omega, hid (fun i y hi hy => ?_), B, K⟩
          by_cases hij : i < j
          · exact E.out i y hij hy
          · obtain rfl : i = j := by omega
            rw [hx.out] at hy
            cases hy
            exact hl
        case measure => simp [intOf]; omega
      · have kl := big hl
        clear E K
        go_wp2
        go_ret
        exact exG B.out
    · have R1 : Hid (∀ (i : Nat) (r : Rl), c.recs[i]? = some r → r.flds.length ≤ 100) := hid (fun i r hr => E.out i r (by have := (List.getElem?_eq_some_iff.1 hr).1; have := h0.out; omega) hr)
      have d2 := K.out.2 2 _ rfl
      have hlt := K.out.1
      clear E hR K
      go_wp2_with fail
      go_loopw [51] (fun t wr => ∃ j : Nat, t = .int .i64 j ∧ j ≤ n2 ∧ Hid (∀ (i : Nat) (r : Bd), i < j → c.threads[i]? = some r → smallT r) ∧ Hid (Below w.heap.size w wr)) (fun t _ => n2 - (intOf t).toNat)
      case atStart => exact ⟨0, rfl, by omega, hid (fun i x h => by omega), B⟩
      case round =>
        clear B d2 hlt
        obtain ⟨i, rfl, hi, E, B⟩ := hrel
        by_cases hin : i < n2
        · obtain ⟨x, b, off, a5, p5, a6, p6, hx, rfl, hb, e5, e6, c0, c1, c2, ok⟩ := hT.out i hin
          rw [← B.out.cell hb] at c0 c1 c2
          obtain ⟨ai, ci, ei, hI⟩ := ins_cells ok.2.2
          rw [e6] at ei; cases ei
          have B2 := hid (B.out.alloc B.out.size (.cells #[.slice a5 x.slots.length p5, .slice a6 x.code.length p6, .int .i64 x.most] 55))
          replace hx := hid hx
          replace hI := hid hI
          clear e5 e6 ok hT
          by_cases hs1 : x.slots.length ≤ 300
          rotate_left
          · have k := big hs1
            clear hI E B
            go_wp2
            go_ret
            exact exG B2.out
          have ks1 := low hs1
          by_cases hs2 : x.code.length ≤ 600
          rotate_left
          · have k := big hs2
            clear hI E B
            go_wp2
            go_ret
            exact exG B2.out
          have ks2 := low hs2
          go_wp2_with fail
          go_loopw [68] (fun t wr' => ∃ k : Nat, t = .int .i64 k ∧ k ≤ x.code.length ∧ Hid (∀ (m : Nat) (y : Ins), m < k → x.code[m]? = some y → smallI y) ∧ Hid (Below w.heap.size w wr')) (fun t _ => x.code.length - (intOf t).toNat)
          case atStart => exact ⟨0, rfl, by omega, hid (fun i x h => by omega), B2⟩
          case round =>
            clear B B2 c0 c1 c2
            obtain ⟨k, rfl, hk, E3, B⟩ := hrel
            by_cases hkn : k < x.code.length
            · obtain ⟨y, b', off', a7, p7, a8, p8, hy, rfl, hb', e7, e8, ⟨d0, d1, d2, d3, d4, d5, d6, d7⟩, ok⟩ := hI.out k hkn
              rw [← B.out.cell hb'] at d0 d1 d2 d3 d4 d5 d6 d7
              have B2 := hid (B.out.alloc B.out.size (.cells #[.int .i64 y.op, .int .i64 y.dst, .int .i64 y.src, .int .i64 y.rc, .int .i64 y.n, .int .i64 y.to, .slice a7 y.items.length p7, .slice a8 y.index.length p8] 58))
              replace hy := hid hy
              clear e7 e8 ok hI
              by_cases g1 : y.items.length ≤ 200
              rotate_left
              · have k := big g1
                clear E3 B
                go_wp2
                go_ret
                exact exG B2.out
              have kg1 := low g1
              by_cases g2 : y.index.length ≤ 200
              rotate_left
              · have k := big g2
                clear E3 B
                go_wp2
                go_ret
                exact exG B2.out
              have kg2 := low g2
              go_wp2
              go_roundw
              case rel =>
                refine ⟨k + 1, by go_num, by omega, hid (fun m z hm hz => ?_), B2⟩
                by_cases hmk : m < k
                · exact E3.out m z hmk hz
                · obtain rfl : m = k := by omega
                  rw [hy.out] at hz
                  cases hz
                  exact ⟨g1, g2⟩
              case measure => simp [intOf]; omega
            · have R3 : Hid (smallT x) := hid ⟨hs1, hs2, fun m y hy => E3.out m y (by have := (List.getElem?_eq_some_iff.1 hy).1; omega) hy⟩
              clear E3 hI
              go_wp2
              go_roundw
              case rel =>
                refine ⟨i + 1, by go_num, by omega, hid (fun m z hm hz => ?_), B⟩
                by_cases hmk : m < i
                · exact E.out m z hmk hz
                · obtain rfl : m = i := by omega
                  rw [hx.out] at hz
                  cases hz
                  exact R3.out
              case measure => simp [intOf]; omega
        · have R2 : ∀ (i : Nat) (r : Bd), c.threads[i]? = some r → smallT r := fun i r hr => E.out i r (by have := (List.getElem?_eq_some_iff.1 hr).1; have := h2.out; omega) hr
          have S : Hid (SmallP c) := hid (by
            refine ⟨by rw [h0.out]; omega, by rw [h1.out]; omega, by rw [h2.out]; omega, by rw [h3.out]; omega, by rw [h4.out]; omega, fun i r hr => ?_, fun i t ht => ?_, fun i t ht => ?_, fun i t ht j x hx => ?_⟩
            · have := R1.out i r hr; omega
            · have := (R2 i t ht).1; omega
            · have := (R2 i t ht).2.1; omega
            · have := (R2 i t ht).2.2 j x hx; exact ⟨by have := this.1; omega, by have := this.2; omega⟩)
          clear E R1 R2 hT
          go_wp2
          go_ret
          exact exGN S.out B.out
end Go.Proofs.YtdpbapoahfggeaaDoor
/- The opening of the document's instr, for every kind. -/
namespace Go.Proofs.YtdpbapoahfggeaaDoor
open Go.ChangeShapes Go.WideShapes Go.ChangeAt Go.RowKit
set_option linter.unusedVariables false
set_option linter.unusedSimpArgs false

/-- What each kind finds: its thread and its instruction in memory, their boxes, and what the callees say. -/
structure PreR (c : Cd) (i k : Nat) (b : Bd) (op dst src rc n tt : Int) (items index : List Itm) (w : World) (fs : ByteArray) (vd vs vr vn vt vi vx : Bool) (a0 : Option Addr) (p0 : Nat) (a1 : Option Addr) (p1 bt ot p2 : Nat) (a3 : Option Addr) (p3 : Nat) (a4 : Option Addr) (p4 : Nat) (a5 : Option Addr) (p5 bi oi p6 : Nat) (a7 : Option Addr) (p7 : Nat) (a8 : Option Addr) (p8 : Nat) : Prop where
  C100 : Hid (HasSays fs 100 vd)
  C115 : Hid (HasSays fs 115 vs)
  C114 : Hid (HasSays fs 114 vr)
  C110 : Hid (HasSays fs 110 vn)
  C116 : Hid (HasSays fs 116 vt)
  C105 : Hid (HasSays fs 105 vi)
  C120 : Hid (HasSays fs 120 vx)
  D100 : Hid (InSays dst (b.slots.length : Int) (isIn dst b.slots.length))
  D115 : Hid (InSays src (b.slots.length : Int) (isIn src b.slots.length))
  D114 : Hid (InSays rc (c.recs.length : Int) (isIn rc c.recs.length))
  D105 : Hid (GoodSays w (.slice a7 items.length p7) (b.slots.length : Int) (goodB (b.slots.length : Int) items))
  D120 : Hid (GoodSays w (.slice a8 index.length p8) (b.slots.length : Int) (goodB (b.slots.length : Int) index))
  hq : Hid ((fs.toList == (⟨#[63]⟩ : ByteArray).toList) = false)
  DI : Hid (∀ (pl : Int) (W : World), Below w.heap.size w W → Calls Tryd.prog 32 #[.agg #[.slice a0 c.recs.length p0, .slice a1 c.globs.length p1, .slice (some ⟨bt, ot, none⟩) c.threads.length p2, .slice a3 c.sites.length p3, .slice a4 c.secs.length p4], .int .i64 i, .int .i64 pl] W fun e w' => e = .returned (.int .i64 (inside c.secs (i : Int) pl)) ∧ Below W.heap.size W w')
  BB : Hid (Below w.heap.size w (((w.alloc (.cells #[.slice a0 c.recs.length p0, .slice a1 c.globs.length p1, .slice (some ⟨bt, ot, none⟩) c.threads.length p2, .slice a3 c.sites.length p3, .slice a4 c.secs.length p4] 41)).alloc (.cells #[.slice a5 b.slots.length p5, .slice (some ⟨bi, oi, none⟩) b.code.length p6, .int .i64 b.most] 55)).alloc (.cells #[.int .i64 op, .int .i64 dst, .int .i64 src, .int .i64 rc, .int .i64 n, .int .i64 tt, .slice a7 items.length p7, .slice a8 index.length p8] 58)))
  KC0 : Hid (BoxAt (((w.alloc (.cells #[.slice a0 c.recs.length p0, .slice a1 c.globs.length p1, .slice (some ⟨bt, ot, none⟩) c.threads.length p2, .slice a3 c.sites.length p3, .slice a4 c.secs.length p4] 41)).alloc (.cells #[.slice a5 b.slots.length p5, .slice (some ⟨bi, oi, none⟩) b.code.length p6, .int .i64 b.most] 55)).alloc (.cells #[.int .i64 op, .int .i64 dst, .int .i64 src, .int .i64 rc, .int .i64 n, .int .i64 tt, .slice a7 items.length p7, .slice a8 index.length p8] 58)) w.heap.size #[.slice a0 c.recs.length p0, .slice a1 c.globs.length p1, .slice (some ⟨bt, ot, none⟩) c.threads.length p2, .slice a3 c.sites.length p3, .slice a4 c.secs.length p4].toList)
  KB0 : Hid (BoxAt (((w.alloc (.cells #[.slice a0 c.recs.length p0, .slice a1 c.globs.length p1, .slice (some ⟨bt, ot, none⟩) c.threads.length p2, .slice a3 c.sites.length p3, .slice a4 c.secs.length p4] 41)).alloc (.cells #[.slice a5 b.slots.length p5, .slice (some ⟨bi, oi, none⟩) b.code.length p6, .int .i64 b.most] 55)).alloc (.cells #[.int .i64 op, .int .i64 dst, .int .i64 src, .int .i64 rc, .int .i64 n, .int .i64 tt, .slice a7 items.length p7, .slice a8 index.length p8] 58)) (w.heap.size + 1) [.slice a5 b.slots.length p5, .slice (some ⟨bi, oi, none⟩) b.code.length p6, .int .i64 b.most])
  KX0 : Hid (BoxAt (((w.alloc (.cells #[.slice a0 c.recs.length p0, .slice a1 c.globs.length p1, .slice (some ⟨bt, ot, none⟩) c.threads.length p2, .slice a3 c.sites.length p3, .slice a4 c.secs.length p4] 41)).alloc (.cells #[.slice a5 b.slots.length p5, .slice (some ⟨bi, oi, none⟩) b.code.length p6, .int .i64 b.most] 55)).alloc (.cells #[.int .i64 op, .int .i64 dst, .int .i64 src, .int .i64 rc, .int .i64 n, .int .i64 tt, .slice a7 items.length p7, .slice a8 index.length p8] 58)) (w.heap.size + 1 + 1) [.int .i64 op, .int .i64 dst, .int .i64 src, .int .i64 rc, .int .i64 n, .int .i64 tt, .slice a7 items.length p7, .slice a8 index.length p8])
  hsec : Hid (Secs w (.slice a4 c.secs.length p4) c.secs)
  hsl : Hid (Locs w (.slice a5 b.slots.length p5) b.slots)
  hgl : Hid (Locs w (.slice a1 c.globs.length p1) c.globs)
  hre : Hid (Rls w (.slice a0 c.recs.length p0) c.recs)
  hst : Hid (Stes w (.slice a3 c.sites.length p3) c.sites)
  F : Hid (insOk c i b k ⟨op, dst, src, rc, n, tt, items, .slice a7 items.length p7, index, .slice a8 index.length p8⟩ = insF c i b k ⟨op, dst, src, rc, n, tt, items, .slice a7 items.length p7, index, .slice a8 index.length p8⟩)
  t0 : w.cell? ⟨bt, ot + i * 3, none⟩ = some (.slice a5 b.slots.length p5)
  t1 : w.cell? ⟨bt, ot + i * 3 + 1, none⟩ = some (.slice (some ⟨bi, oi, none⟩) b.code.length p6)
  t2 : w.cell? ⟨bt, ot + i * 3 + 2, none⟩ = some (.int .i64 b.most)
  d0 : w.cell? ⟨bi, oi + k * 8, none⟩ = some (.int .i64 op)
  d1 : w.cell? ⟨bi, oi + k * 8 + 1, none⟩ = some (.int .i64 dst)
  d2 : w.cell? ⟨bi, oi + k * 8 + 2, none⟩ = some (.int .i64 src)
  d3 : w.cell? ⟨bi, oi + k * 8 + 3, none⟩ = some (.int .i64 rc)
  d4 : w.cell? ⟨bi, oi + k * 8 + 4, none⟩ = some (.int .i64 n)
  d5 : w.cell? ⟨bi, oi + k * 8 + 5, none⟩ = some (.int .i64 tt)
  d6 : w.cell? ⟨bi, oi + k * 8 + 6, none⟩ = some (.slice a7 items.length p7)
  d7 : w.cell? ⟨bi, oi + k * 8 + 7, none⟩ = some (.slice a8 index.length p8)
  ii : (i : Int) < (c.threads.length : Int)
  kk : (k : Int) < (b.code.length : Int)
  hbt : bt < w.heap.size
  hbi : bi < w.heap.size
  q1 : c.recs.length ≤ 1000
  q3 : c.threads.length ≤ 1000
  q5 : c.secs.length ≤ 1000
  qs : b.slots.length ≤ 1000
  qc : b.code.length ≤ 1000
set_option maxRecDepth 100000 in
set_option maxHeartbeats 2000000 in
theorem pre_any {c : Cd} {i k : Nat} {b : Bd} {op dst src rc n tt : Int} {items index : List Itm} {iv xv : Value} {w : World} (hc : c.okW w) (hs : SmallP c) (ht : c.threads[i]? = some b) (hx : b.code[k]? = some ⟨op, dst, src, rc, n, tt, items, iv, index, xv⟩)
    (fs : ByteArray) (vd vs vr vn vt vi vx : Bool) (Hf : fs.size ≤ 1000) (Hd : hasC fs 100 = vd) (Hs : hasC fs 115 = vs) (Hr : hasC fs 114 = vr) (Hn : hasC fs 110 = vn) (Ht : hasC fs 116 = vt) (Hi : hasC fs 105 = vi) (Hx : hasC fs 120 = vx) (hq : (fs.toList == (⟨#[63]⟩ : ByteArray).toList) = false) :
    ∃ (a0 : Option Addr) (p0 : Nat) (a1 : Option Addr) (p1 bt ot p2 : Nat) (a3 : Option Addr) (p3 : Nat) (a4 : Option Addr) (p4 : Nat) (a5 : Option Addr) (p5 bi oi p6 : Nat) (a7 : Option Addr) (p7 : Nat) (a8 : Option Addr) (p8 : Nat), c.rv = .slice a0 c.recs.length p0 ∧ c.gv = .slice a1 c.globs.length p1 ∧ c.tv = .slice (some ⟨bt, ot, none⟩) c.threads.length p2 ∧ c.ev = .slice a3 c.sites.length p3 ∧ c.cv = .slice a4 c.secs.length p4 ∧ iv = .slice a7 items.length p7 ∧ xv = .slice a8 index.length p8 ∧
      PreR c i k b op dst src rc n tt items index w fs vd vs vr vn vt vi vx a0 p0 a1 p1 bt ot p2 a3 p3 a4 p4 a5 p5 bi oi p6 a7 p7 a8 p8 := by
  obtain ⟨a0, p0, a1, p1, a2, p2, a3, p3, a4, p4, e0, e1, e2, e3, e4⟩ := cd_open hc
  have hit := (List.getElem?_eq_some_iff.1 ht).1
  have hkt := (List.getElem?_eq_some_iff.1 hx).1
  obtain ⟨at', ct, et, hT⟩ := bd_cells hc.2.2.1
  rw [e2] at et; cases et
  obtain ⟨b', bt, ot, a5, p5, a6, p6, hb', rfl, hbt, e5, e6, t0, t1, t2, bok⟩ := hT i hit
  rw [ht] at hb'; cases hb'
  obtain ⟨ac, cc, ec, hC⟩ := ins_cells bok.2.2
  rw [e6] at ec; cases ec
  obtain ⟨x', bi, oi, a7, p7, a8, p8, hx', rfl, hbi, e7, e8, ⟨d0, d1, d2, d3, d4, d5, d6, d7⟩, xok⟩ := hC k hkt
  rw [hx] at hx'; cases hx'
  simp only at e7 e8 d0 d1 d2 d3 d4 d5 d6 d7
  subst e7 e8
  have q1 := hs.l1
  have q3 := hs.l3
  have q5 := hs.l5
  have qs := hs.slots i b ht
  have qc := hs.code i b ht
  have qi := hs.items i b ht k _ hx
  simp only at qi
  obtain ⟨qi1, qi2⟩ := qi
  have ii : (i : Int) < (c.threads.length : Int) := by omega
  have kk : (k : Int) < (b.code.length : Int) := by omega
  have hsec := hc.2.2.2.2
  rw [e4] at hsec
  have DI := fun (pl : Int) W (h : Below w.heap.size w W) => rinside_any (.slice a0 c.recs.length p0) (.slice a1 c.globs.length p1) (.slice (some ⟨bt, ot, none⟩) c.threads.length p2) (.slice a3 c.sites.length p3) (.slice a4 c.secs.length p4) c.secs i pl W (Secs.kept hsec h) (by omega)
  have C100 : HasSays fs 100 vd := fun W => by have h := has_any fs 100 W Hf; rw [Hd] at h; exact h
  have C115 : HasSays fs 115 vs := fun W => by have h := has_any fs 115 W Hf; rw [Hs] at h; exact h
  have C114 : HasSays fs 114 vr := fun W => by have h := has_any fs 114 W Hf; rw [Hr] at h; exact h
  have C110 : HasSays fs 110 vn := fun W => by have h := has_any fs 110 W Hf; rw [Hn] at h; exact h
  have C116 : HasSays fs 116 vt := fun W => by have h := has_any fs 116 W Hf; rw [Ht] at h; exact h
  have C105 : HasSays fs 105 vi := fun W => by have h := has_any fs 105 W Hf; rw [Hi] at h; exact h
  have C120 : HasSays fs 120 vx := fun W => by have h := has_any fs 120 W Hf; rw [Hx] at h; exact h
  have D100 : InSays dst (b.slots.length : Int) (isIn dst b.slots.length) := fun W => in_any dst (b.slots.length : Int) b.slots.length rfl W
  have D115 : InSays src (b.slots.length : Int) (isIn src b.slots.length) := fun W => in_any src (b.slots.length : Int) b.slots.length rfl W
  have D114 : InSays rc (c.recs.length : Int) (isIn rc c.recs.length) := fun W => in_any rc (c.recs.length : Int) c.recs.length rfl W
  have D105 : GoodSays w (.slice a7 items.length p7) (b.slots.length : Int) (goodB (b.slots.length : Int) items) := fun W h => by
    obtain ⟨a, cap, e, hI⟩ := (Items.kept xok.2.1 h).at
    simp only at e
    cases e
    exact rgood_any (b.slots.length : Int) a7 items.length p7 items W rfl hI (by omega) (by omega) (by omega)
  have D120 : GoodSays w (.slice a8 index.length p8) (b.slots.length : Int) (goodB (b.slots.length : Int) index) := fun W h => by
    obtain ⟨a, cap, e, hI⟩ := (Items.kept xok.2.2 h).at
    simp only at e
    cases e
    exact rgood_any (b.slots.length : Int) a8 index.length p8 index W rfl hI (by omega) (by omega) (by omega)
  have hsl := bok.2.1
  rw [e5] at hsl
  have hgl := hc.2.1
  rw [e1] at hgl
  have hre := hc.1
  rw [e0] at hre
  have hst := hc.2.2.2.1
  rw [e3] at hst
  have BB := below3 w (.cells #[.slice a0 c.recs.length p0, .slice a1 c.globs.length p1, .slice (some ⟨bt, ot, none⟩) c.threads.length p2, .slice a3 c.sites.length p3, .slice a4 c.secs.length p4] 41) (.cells #[.slice a5 b.slots.length p5, .slice (some ⟨bi, oi, none⟩) b.code.length p6, .int .i64 b.most] 55) (.cells #[.int .i64 op, .int .i64 dst, .int .i64 src, .int .i64 rc, .int .i64 n, .int .i64 tt, .slice a7 items.length p7, .slice a8 index.length p8] 58)
  have KC0 := ((BoxAt.new w #[.slice a0 c.recs.length p0, .slice a1 c.globs.length p1, .slice (some ⟨bt, ot, none⟩) c.threads.length p2, .slice a3 c.sites.length p3, .slice a4 c.secs.length p4] 41).past (.cells #[.slice a5 b.slots.length p5, .slice (some ⟨bi, oi, none⟩) b.code.length p6, .int .i64 b.most] 55)).past (.cells #[.int .i64 op, .int .i64 dst, .int .i64 src, .int .i64 rc, .int .i64 n, .int .i64 tt, .slice a7 items.length p7, .slice a8 index.length p8] 58)
  have KB0 := (BoxAt.new (w.alloc (.cells #[.slice a0 c.recs.length p0, .slice a1 c.globs.length p1, .slice (some ⟨bt, ot, none⟩) c.threads.length p2, .slice a3 c.sites.length p3, .slice a4 c.secs.length p4] 41)) #[.slice a5 b.slots.length p5, .slice (some ⟨bi, oi, none⟩) b.code.length p6, .int .i64 b.most] 55).past (.cells #[.int .i64 op, .int .i64 dst, .int .i64 src, .int .i64 rc, .int .i64 n, .int .i64 tt, .slice a7 items.length p7, .slice a8 index.length p8] 58)
  have KX0 := BoxAt.new ((w.alloc (.cells #[.slice a0 c.recs.length p0, .slice a1 c.globs.length p1, .slice (some ⟨bt, ot, none⟩) c.threads.length p2, .slice a3 c.sites.length p3, .slice a4 c.secs.length p4] 41)).alloc (.cells #[.slice a5 b.slots.length p5, .slice (some ⟨bi, oi, none⟩) b.code.length p6, .int .i64 b.most] 55)) #[.int .i64 op, .int .i64 dst, .int .i64 src, .int .i64 rc, .int .i64 n, .int .i64 tt, .slice a7 items.length p7, .slice a8 index.length p8] 58
  simp only [World.size_alloc] at KB0 KX0
  have F : Hid (insOk c i b k ⟨op, dst, src, rc, n, tt, items, .slice a7 items.length p7, index, .slice a8 index.length p8⟩ = insF c i b k ⟨op, dst, src, rc, n, tt, items, .slice a7 items.length p7, index, .slice a8 index.length p8⟩) := hid (insOk_eq _ _ _ _ _)
  exact ⟨a0, p0, a1, p1, bt, ot, p2, a3, p3, a4, p4, a5, p5, bi, oi, p6, a7, p7, a8, p8, e0, e1, e2, e3, e4, rfl, rfl, ⟨hid C100, hid C115, hid C114, hid C110, hid C116, hid C105, hid C120, hid D100, hid D115, hid D114, hid D105, hid D120, hid hq, hid DI, hid BB, hid KC0, hid KB0, hid KX0, hid hsec, hid hsl, hid hgl, hid hre, hid hst, F, t0, t1, t2, d0, d1, d2, d3, d4, d5, d6, d7, ii, kk, hbt, hbi, q1, q3, q5, qs, qc⟩⟩
end Go.Proofs.YtdpbapoahfggeaaDoor
