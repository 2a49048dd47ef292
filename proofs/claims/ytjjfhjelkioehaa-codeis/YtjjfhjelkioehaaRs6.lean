/- The document's Good: its loop over the sites. -/
import Derived.Test.YtjjfhjelkioehaaR48
import Derived.Test.YtjjfhjelkioehaaInsl
import Derived.Test.YtjjfhjelkioehaaAgrC
namespace Go.Proofs.Ytjjfhjelkioehaa
open Go.ChangeShapes Go.WideShapes Go.ChangeAt Go.RowKit
set_option linter.unusedVariables false
set_option linter.unusedSimpArgs false

set_option maxRecDepth 100000 in
set_option maxHeartbeats 4000000 in
theorem stm6_any {Q : Exit → Act → World → Prop} {g : Nat → Value} {bc : Nat} (c : Cd) (w : World) (hc : c.okW w) (hs : SmallP c) (KC : BoxAt w bc [c.rv, c.gv, c.tv, c.ev, c.cv])
    (hret : ∀ (a' : Act) (W : World), a'.tmps.getD 2 undef = .bool false → a'.defers = [] → Below w.heap.size w W → ¬ (∀ (i : Nat) (s : Ste), c.sites[i]? = some s → steOk c i s) → Q .ret a' W)
    (hnext : ∀ (a' : Act) (W : World), a'.tmps.size = 324 → a'.tmps.getD 1 undef = .pointer (some ⟨bc, 0, none⟩) → a'.defers = [] → Below w.heap.size w W → (∀ (i : Nat) (s : Ste), c.sites[i]? = some s → steOk c i s) → Q .normal a' W) :
    (stm 6).wp Try.prog Q ⟨(g 0 :: .pointer (some ⟨bc, 0, none⟩) :: g 2 :: g 3 :: g 4 :: g 5 :: g 6 :: g 7 :: g 8 :: g 9 :: g 10 :: g 11 :: g 12 :: g 13 :: g 14 :: g 15 :: g 16 :: g 17 :: g 18 :: g 19 :: g 20 :: g 21 :: g 22 :: g 23 :: g 24 :: g 25 :: g 26 :: g 27 :: g 28 :: g 29 :: g 30 :: g 31 :: g 32 :: g 33 :: g 34 :: g 35 :: g 36 :: g 37 :: g 38 :: g 39 :: g 40 :: g 41 :: g 42 :: g 43 :: g 44 :: g 45 :: g 46 :: g 47 :: g 48 :: g 49 :: g 50 :: g 51 :: g 52 :: g 53 :: g 54 :: g 55 :: g 56 :: g 57 :: g 58 :: g 59 :: g 60 :: g 61 :: g 62 :: g 63 :: g 64 :: g 65 :: g 66 :: g 67 :: g 68 :: g 69 :: g 70 :: g 71 :: g 72 :: g 73 :: g 74 :: g 75 :: g 76 :: g 77 :: g 78 :: g 79 :: g 80 :: g 81 :: g 82 :: g 83 :: g 84 :: g 85 :: g 86 :: g 87 :: g 88 :: g 89 :: g 90 :: g 91 :: g 92 :: g 93 :: g 94 :: g 95 :: g 96 :: g 97 :: g 98 :: g 99 :: g 100 :: g 101 :: g 102 :: g 103 :: g 104 :: g 105 :: g 106 :: g 107 :: g 108 :: g 109 :: g 110 :: g 111 :: g 112 :: g 113 :: g 114 :: g 115 :: g 116 :: g 117 :: g 118 :: g 119 :: g 120 :: g 121 :: g 122 :: g 123 :: g 124 :: g 125 :: g 126 :: g 127 :: g 128 :: g 129 :: g 130 :: g 131 :: g 132 :: g 133 :: g 134 :: g 135 :: g 136 :: g 137 :: g 138 :: g 139 :: g 140 :: g 141 :: g 142 :: g 143 :: g 144 :: g 145 :: g 146 :: g 147 :: g 148 :: g 149 :: g 150 :: g 151 :: g 152 :: g 153 :: g 154 :: g 155 :: g 156 :: g 157 :: g 158 :: g 159 :: g 160 :: g 161 :: g 162 :: g 163 :: g 164 :: g 165 :: g 166 :: g 167 :: g 168 :: g 169 :: g 170 :: g 171 :: g 172 :: g 173 :: g 174 :: g 175 :: g 176 :: g 177 :: g 178 :: g 179 :: g 180 :: g 181 :: g 182 :: g 183 :: g 184 :: g 185 :: g 186 :: g 187 :: g 188 :: g 189 :: g 190 :: g 191 :: g 192 :: g 193 :: g 194 :: g 195 :: g 196 :: g 197 :: g 198 :: g 199 :: g 200 :: g 201 :: g 202 :: g 203 :: g 204 :: g 205 :: g 206 :: g 207 :: g 208 :: g 209 :: g 210 :: g 211 :: g 212 :: g 213 :: g 214 :: g 215 :: g 216 :: g 217 :: g 218 :: g 219 :: g 220 :: g 221 :: g 222 :: g 223 :: g 224 :: g 225 :: g 226 :: g 227 :: g 228 :: g 229 :: g 230 :: g 231 :: g 232 :: g 233 :: g 234 :: g 235 :: g 236 :: g 237 :: g 238 :: g 239 :: g 240 :: g 241 :: g 242 :: g 243 :: g 244 :: g 245 :: g 246 :: g 247 :: g 248 :: g 249 :: g 250 :: g 251 :: g 252 :: g 253 :: g 254 :: g 255 :: g 256 :: g 257 :: g 258 :: g 259 :: g 260 :: g 261 :: g 262 :: g 263 :: g 264 :: g 265 :: g 266 :: g 267 :: g 268 :: g 269 :: g 270 :: g 271 :: g 272 :: g 273 :: g 274 :: g 275 :: g 276 :: g 277 :: g 278 :: g 279 :: g 280 :: g 281 :: g 282 :: g 283 :: g 284 :: g 285 :: g 286 :: g 287 :: g 288 :: g 289 :: g 290 :: g 291 :: g 292 :: g 293 :: g 294 :: g 295 :: g 296 :: g 297 :: g 298 :: g 299 :: g 300 :: g 301 :: g 302 :: g 303 :: g 304 :: g 305 :: g 306 :: g 307 :: g 308 :: g 309 :: g 310 :: g 311 :: g 312 :: g 313 :: g 314 :: g 315 :: g 316 :: g 317 :: g 318 :: g 319 :: g 320 :: g 321 :: g 322 :: g 323 :: []).toArray, []⟩ w := by
  obtain ⟨a0, p0, a1, p1, a2, p2, a3, p3, a4, p4, e0, e1, e2, e3, e4⟩ := cd_open hc
  obtain ⟨at', ct, et, hT⟩ := bd_cells hc.2.2.1
  rw [e2] at et; cases et
  have hst := hc.2.2.2.1
  rw [e3] at hst
  rw [e0, e1, e2, e3, e4] at KC
  have q3 : c.threads.length ≤ 1000 := hs.l3
  have q4 : c.sites.length ≤ 1000 := hs.l4
  have hcode := hid hs.code
  clear e0 e1 e2 e3 e4 hc hs
  have lc := KC.1
  have B0 := hid (Below.refl w.heap.size w)
  replace KC := hid KC
  replace hT := hid hT
  replace hst := hid hst
  replace hret := hid hret
  replace hnext := hid hnext
  conv => arg 2; whnf
  have c3 := KC.out.2 3 _ rfl
  go_wp2_with fail
  clear c3
  go_loopw [251] (fun t wr => ∃ j : Nat, t = .int .i64 j ∧ j ≤ c.sites.length ∧ Hid (∀ (i : Nat) (s : Ste), i < j → c.sites[i]? = some s → steOk c i s) ∧ Hid (Below w.heap.size w wr)) (fun t _ => c.sites.length - (intOf t).toNat)
  case atStart => exact ⟨0, rfl, by omega, hid (fun i x h => by omega), B0⟩
  case round =>
    clear B0
    obtain ⟨i, rfl, hi, E, B⟩ := hrel
    by_cases hin : i < c.sites.length
    rotate_left
    · have R2 : Hid (∀ (i : Nat) (s : Ste), c.sites[i]? = some s → steOk c i s) := hid (fun i t ht => E.out i t (by have := (List.getElem?_eq_some_iff.1 ht).1; omega) ht)
      clear E hT hst
      go_wp2_with fail
      exact hnext.out _ _ rfl rfl rfl B.out R2.out
    obtain ⟨st, hs⟩ : ∃ q, c.sites[i]? = some q := ⟨c.sites[i], by simp [hin]⟩
    obtain ⟨b, off, cp, es, hb, u0, u1, u2⟩ := ste_cells hst.out hs
    cases es
    obtain ⟨sth, spl, src⟩ := st
    simp only at u0 u1 u2
    rw [← B.out.cell hb] at u0 u1 u2
    have lb := Nat.lt_of_lt_of_le hb B.out.size
    replace hs := hid hs
    have KC2 := hid (KC.out.kept B.out)
    have lc2 : _ < _ := KC2.out.1
    have BX := hid (B.out.alloc B.out.size (.cells #[.int .i64 sth, .int .i64 spl, .int .i64 src] 48))
    cases rT : isIn sth c.threads.length
    · have N1 := hid (fun W => by have h := in_any sth (c.threads.length : Int) c.threads.length rfl W; rw [rT] at h; exact h)
      have G : Hid (¬ (∀ (i : Nat) (s : Ste), c.sites[i]? = some s → steOk c i s)) := hid (fun h => ste_no (insAt_n1 rT) (h i _ hs.out))
      obtain ⟨c0, c1, c2, c3, c4⟩ := five0 KC2.out
      clear E hT hst rT KC2
      go_wp2_with fail
      go_quiet ((first | (go_at_call 20; exact Calls.quiet_of_same (N1.out _))))
      go_wp2_with fail
      exact hret.out _ _ rfl rfl (below_drewN BX.out nq) G.out
    have N1 := fun W => in_any sth (c.threads.length : Int) c.threads.length rfl W
    rw [rT] at N1
    obtain ⟨kt, rfl, hkt⟩ := isIn_nat rT
    replace N1 := hid N1
    obtain ⟨x, bt, ot, a5, p5, a6, p6, hx, ha, hbt, e5, e6, t0, t1, t2, ok⟩ := hT.out kt hkt
    cases ha
    have kt2 : (kt : Int) < (c.threads.length : Int) := by omega
    have qc := hcode.out kt x hx
    rw [← B.out.cell hbt] at t0 t1 t2
    have lbt := Nat.lt_of_lt_of_le hbt B.out.size
    obtain ⟨ai, ci, ei, hI⟩ := ins_cells ok.2.2
    rw [e6] at ei; cases ei
    replace hx := hid hx
    replace hI := hid hI
    clear e5 e6 ok rT
    cases rP : isIn spl x.code.length
    · have N2 := hid (fun W => by have h := in_any spl (x.code.length : Int) x.code.length rfl W; rw [rP] at h; exact h)
      have G : Hid (¬ (∀ (i : Nat) (s : Ste), c.sites[i]? = some s → steOk c i s)) := hid (fun h => ste_no (insAt_n2 hx.out rP) (h i _ hs.out))
      obtain ⟨c0, c1, c2, c3, c4⟩ := five0 KC2.out
      clear E hT hst rP KC2 hI
      go_wp2_with fail
      go_quiet ((first | (go_at_call 20; with_reducible exact Calls.quiet_of_same (N1.out _)) | (go_at_call 20; with_reducible exact Calls.quiet_of_same (N2.out _))))
      go_wp2_with fail
      exact hret.out _ _ rfl rfl (below_drewN BX.out nq) G.out
    have N2 := fun W => in_any spl (x.code.length : Int) x.code.length rfl W
    rw [rP] at N2
    obtain ⟨kp, rfl, hkp⟩ := isIn_nat rP
    replace N2 := hid N2
    obtain ⟨y, bi, oi, a7, p7, a8, p8, hy, ha, hbi, e7, e8, ⟨d0, d1, d2, d3, d4, d5, d6, d7⟩, yok⟩ := hI.out kp hkp
    cases ha
    have kp2 : (kp : Int) < (x.code.length : Int) := by omega
    rw [← B.out.cell hbi] at d0 d1 d2 d3 d4 d5 d6 d7
    have lbi := Nat.lt_of_lt_of_le hbi B.out.size
    have eI := insAt_i0 hx.out hy
    have SO : Hid (steOk c i ⟨(kt : Int), (kp : Int), src⟩ ↔ ((y.op = 8 ∨ y.op = 9) ∧ y.n = i)) := hid (by unfold steOk; simp only; rw [eI])
    clear e7 e8 yok rP eI hI hT hst
    replace hy := hid hy
    obtain ⟨c0, c1, c2, c3, c4⟩ := five0 KC2.out
    clear KC2
    go_wp2_with fail
    go_quiet ((first | (go_at_call 20; with_reducible exact Calls.quiet_of_same (N1.out _)) | (go_at_call 20; with_reducible exact Calls.quiet_of_same (N2.out _))))
    clear N1 N2
    go_wp2_with fail
    have hY := hid (below_drewN ((Below.refl wr.heap.size wr).alloc (Nat.le_refl _) (.cells #[.int .i64 (kt : Int), .int .i64 (kp : Int), .int .i64 src] 48)) nq)
    have KS := hid ((BoxAt.new wr #[.int .i64 (kt : Int), .int .i64 (kp : Int), .int .i64 src] 48).kept (below_drewN (Below.refl _ _) nq))
    refine region48_any (Nat.lt_of_lt_of_le lc2 hY.out.size) KS.out.1 (Nat.lt_of_lt_of_le lbt hY.out.size) (Nat.lt_of_lt_of_le lbi hY.out.size) kt2 kp2 (by rintro w' rfl; exact ⟨(hY.out.cell lc2).trans c2, KS.out.2 0 _ rfl, KS.out.2 1 _ rfl, (hY.out.cell lbt).trans t1, (hY.out.cell lbi).trans d0, (hY.out.cell lbi).trans d1, (hY.out.cell lbi).trans d2, (hY.out.cell lbi).trans d3, (hY.out.cell lbi).trans d4, (hY.out.cell lbi).trans d5, (hY.out.cell lbi).trans d6, (hY.out.cell lbi).trans d7⟩) ?_
    intro w5 hv hb5 g2
    have B5 := hid (bover (below_drewN BX.out nq) hb5)
    have hX : ((wr.alloc (.cells #[.int .i64 (kt : Int), .int .i64 (kp : Int), .int .i64 src] 48)).drewN nq).heap.size = wr.heap.size + 1 := by show (wr.alloc _).heap.size = _; simp only [World.size_alloc]
    rw [hX] at hv
    obtain ⟨m0, m1, m2, m3, m4, m5, m6, m7⟩ := eight hv.box
    clear hv hb5 hX hY KS BX B c0 c1 c2 c3 c4 t0 t1 t2 d0 d1 d2 d3 d4 d5 d6 d7 u0 u1 u2
    cases z1 : (y.n != (i : Int))
    rotate_left
    · have G : Hid (¬ (∀ (i : Nat) (s : Ste), c.sites[i]? = some s → steOk c i s)) := hid (fun h => by have h2 := (SO.out.1 (h i _ hs.out)).2; rw [h2] at z1; simp at z1)
      clear E SO
      go_wp2_with fail
      exact hret.out _ _ rfl rfl B5.out G.out
    have z1e : y.n = (i : Int) := by simpa using z1
    cases z2 : (y.op != 8)
    · have z2e : y.op = 8 := by simpa using z2
      have G := hid (SO.out.2 ⟨Or.inl z2e, z1e⟩)
      clear SO z1e z2e
      go_wp2_with fail
      go_roundw
      case rel =>
        refine ⟨i + 1, by go_num, by omega, hid (fun m z hm hz => ?_), B5⟩
        by_cases hmk : m < i
        · exact E.out m z hmk hz
        · obtain rfl : m = i := by omega
          rw [hs.out] at hz
          cases hz
          exact G.out
      case measure => simp [intOf]; omega
    cases z3 : (y.op != 9)
    · have z3e : y.op = 9 := by simpa using z3
      have G := hid (SO.out.2 ⟨Or.inr z3e, z1e⟩)
      clear SO z1e z3e
      go_wp2_with fail
      go_roundw
      case rel =>
        refine ⟨i + 1, by go_num, by omega, hid (fun m z hm hz => ?_), B5⟩
        by_cases hmk : m < i
        · exact E.out m z hmk hz
        · obtain rfl : m = i := by omega
          rw [hs.out] at hz
          cases hz
          exact G.out
      case measure => simp [intOf]; omega
    · have G : Hid (¬ (∀ (i : Nat) (s : Ste), c.sites[i]? = some s → steOk c i s)) := hid (fun h => by
        rcases (SO.out.1 (h i _ hs.out)).1 with q | q
        · rw [q] at z2; simp at z2
        · rw [q] at z3; simp at z3)
      clear E SO z1e
      go_wp2_with fail
      exact hret.out _ _ rfl rfl B5.out G.out
end Go.Proofs.Ytjjfhjelkioehaa
