/- The document's Good: its limits. -/
import Derived.Test.YtdpbapoahfggeaaDoorM12
import Derived.Test.YtdpbapoahfggeaaDoorM04
import Derived.Test.YtdpbapoahfggeaaDoorAgrC
namespace Go.Proofs.YtdpbapoahfggeaaDoor
open Go.ChangeShapes Go.WideShapes Go.ChangeAt Go.RowKit
set_option linter.unusedVariables false
set_option linter.unusedSimpArgs false

set_option maxRecDepth 100000 in
set_option maxHeartbeats 4000000 in
theorem stm1_any {Q : Exit → Act → World → Prop} {g : Nat → Value} {bc : Nat} (c : Cd) (w : World) (hc : c.okW w) (KC : BoxAt w bc [c.rv, c.gv, c.tv, c.ev, c.cv])
    (hret : ∀ (a' : Act) (W : World), a'.tmps.getD 2 undef = .bool false → a'.defers = [] → Below w.heap.size w W → ¬ (c.recs.length ≤ 6 ∧ c.globs.length ≤ 8 ∧ c.threads.length ≤ 4 ∧ c.sites.length ≤ 32 ∧ c.secs.length ≤ 32) → Q .ret a' W)
    (hnext : ∀ (a' : Act) (W : World), a'.tmps.size = 324 → a'.tmps.getD 1 undef = .pointer (some ⟨bc, 0, none⟩) → a'.defers = [] → Below w.heap.size w W → (c.recs.length ≤ 6 ∧ c.globs.length ≤ 8 ∧ c.threads.length ≤ 4 ∧ c.sites.length ≤ 32 ∧ c.secs.length ≤ 32) → Q .normal a' W) :
    ((((Tryd.f14.body.map spineC).getD [])[1]?).getD Code.skip).wp Tryd.prog Q ⟨(g 0 :: .pointer (some ⟨bc, 0, none⟩) :: g 2 :: g 3 :: g 4 :: g 5 :: g 6 :: g 7 :: g 8 :: g 9 :: g 10 :: g 11 :: g 12 :: g 13 :: g 14 :: g 15 :: g 16 :: g 17 :: g 18 :: g 19 :: g 20 :: g 21 :: g 22 :: g 23 :: g 24 :: g 25 :: g 26 :: g 27 :: g 28 :: g 29 :: g 30 :: g 31 :: g 32 :: g 33 :: g 34 :: g 35 :: g 36 :: g 37 :: g 38 :: g 39 :: g 40 :: g 41 :: g 42 :: g 43 :: g 44 :: g 45 :: g 46 :: g 47 :: g 48 :: g 49 :: g 50 :: g 51 :: g 52 :: g 53 :: g 54 :: g 55 :: g 56 :: g 57 :: g 58 :: g 59 :: g 60 :: g 61 :: g 62 :: g 63 :: g 64 :: g 65 :: g 66 :: g 67 :: g 68 :: g 69 :: g 70 :: g 71 :: g 72 :: g 73 :: g 74 :: g 75 :: g 76 :: g 77 :: g 78 :: g 79 :: g 80 :: g 81 :: g 82 :: g 83 :: g 84 :: g 85 :: g 86 :: g 87 :: g 88 :: g 89 :: g 90 :: g 91 :: g 92 :: g 93 :: g 94 :: g 95 :: g 96 :: g 97 :: g 98 :: g 99 :: g 100 :: g 101 :: g 102 :: g 103 :: g 104 :: g 105 :: g 106 :: g 107 :: g 108 :: g 109 :: g 110 :: g 111 :: g 112 :: g 113 :: g 114 :: g 115 :: g 116 :: g 117 :: g 118 :: g 119 :: g 120 :: g 121 :: g 122 :: g 123 :: g 124 :: g 125 :: g 126 :: g 127 :: g 128 :: g 129 :: g 130 :: g 131 :: g 132 :: g 133 :: g 134 :: g 135 :: g 136 :: g 137 :: g 138 :: g 139 :: g 140 :: g 141 :: g 142 :: g 143 :: g 144 :: g 145 :: g 146 :: g 147 :: g 148 :: g 149 :: g 150 :: g 151 :: g 152 :: g 153 :: g 154 :: g 155 :: g 156 :: g 157 :: g 158 :: g 159 :: g 160 :: g 161 :: g 162 :: g 163 :: g 164 :: g 165 :: g 166 :: g 167 :: g 168 :: g 169 :: g 170 :: g 171 :: g 172 :: g 173 :: g 174 :: g 175 :: g 176 :: g 177 :: g 178 :: g 179 :: g 180 :: g 181 :: g 182 :: g 183 :: g 184 :: g 185 :: g 186 :: g 187 :: g 188 :: g 189 :: g 190 :: g 191 :: g 192 :: g 193 :: g 194 :: g 195 :: g 196 :: g 197 :: g 198 :: g 199 :: g 200 :: g 201 :: g 202 :: g 203 :: g 204 :: g 205 :: g 206 :: g 207 :: g 208 :: g 209 :: g 210 :: g 211 :: g 212 :: g 213 :: g 214 :: g 215 :: g 216 :: g 217 :: g 218 :: g 219 :: g 220 :: g 221 :: g 222 :: g 223 :: g 224 :: g 225 :: g 226 :: g 227 :: g 228 :: g 229 :: g 230 :: g 231 :: g 232 :: g 233 :: g 234 :: g 235 :: g 236 :: g 237 :: g 238 :: g 239 :: g 240 :: g 241 :: g 242 :: g 243 :: g 244 :: g 245 :: g 246 :: g 247 :: g 248 :: g 249 :: g 250 :: g 251 :: g 252 :: g 253 :: g 254 :: g 255 :: g 256 :: g 257 :: g 258 :: g 259 :: g 260 :: g 261 :: g 262 :: g 263 :: g 264 :: g 265 :: g 266 :: g 267 :: g 268 :: g 269 :: g 270 :: g 271 :: g 272 :: g 273 :: g 274 :: g 275 :: g 276 :: g 277 :: g 278 :: g 279 :: g 280 :: g 281 :: g 282 :: g 283 :: g 284 :: g 285 :: g 286 :: g 287 :: g 288 :: g 289 :: g 290 :: g 291 :: g 292 :: g 293 :: g 294 :: g 295 :: g 296 :: g 297 :: g 298 :: g 299 :: g 300 :: g 301 :: g 302 :: g 303 :: g 304 :: g 305 :: g 306 :: g 307 :: g 308 :: g 309 :: g 310 :: g 311 :: g 312 :: g 313 :: g 314 :: g 315 :: g 316 :: g 317 :: g 318 :: g 319 :: g 320 :: g 321 :: g 322 :: g 323 :: []).toArray, []⟩ w := by
  obtain ⟨a0, p0, a1, p1, a2, p2, a3, p3, a4, p4, e0, e1, e2, e3, e4⟩ := cd_open hc
  rw [e0, e1, e2, e3, e4] at KC
  clear e0 e1 e2 e3 e4 hc
  have B0 := hid (Below.refl w.heap.size w)
  obtain ⟨c0, c1, c2, c3, c4⟩ := five0 KC
  clear KC
  replace hret := hid hret
  replace hnext := hid hnext
  conv => arg 2; whnf
  by_cases q0 : c.recs.length ≤ 6
  rotate_left
  · have k := big q0
    go_wp2
    exact hret.out _ _ rfl rfl B0.out (fun h => q0 h.1)
  by_cases q1 : c.globs.length ≤ 8
  rotate_left
  · have k0 := low q0
    have k := big q1
    go_wp2
    exact hret.out _ _ rfl rfl B0.out (fun h => q1 h.2.1)
  by_cases q2 : c.threads.length ≤ 4
  rotate_left
  · have k0 := low q0
    have k1 := low q1
    have k := big q2
    go_wp2
    exact hret.out _ _ rfl rfl B0.out (fun h => q2 h.2.2.1)
  by_cases q3 : c.sites.length ≤ 32
  rotate_left
  · have k0 := low q0
    have k1 := low q1
    have k2 := low q2
    have k := big q3
    go_wp2
    exact hret.out _ _ rfl rfl B0.out (fun h => q3 h.2.2.2.1)
  by_cases q4 : c.secs.length ≤ 32
  rotate_left
  · have k0 := low q0
    have k1 := low q1
    have k2 := low q2
    have k3 := low q3
    have k := big q4
    go_wp2
    exact hret.out _ _ rfl rfl B0.out (fun h => q4 h.2.2.2.2)
  have k0 := low q0
  have k1 := low q1
  have k2 := low q2
  have k3 := low q3
  have k4 := low q4
  go_wp2
  exact hnext.out _ _ rfl rfl rfl B0.out ⟨q0, q1, q2, q3, q4⟩
end Go.Proofs.YtdpbapoahfggeaaDoor

/- The document's Good: its loop over the threads. -/
namespace Go.Proofs.YtdpbapoahfggeaaDoor
open Go.ChangeShapes Go.WideShapes Go.ChangeAt Go.RowKit
set_option linter.unusedVariables false
set_option linter.unusedSimpArgs false

set_option maxRecDepth 100000 in
set_option maxHeartbeats 4000000 in
theorem stm4_any {Q : Exit → Act → World → Prop} {g : Nat → Value} {bc : Nat} (c : Cd) (w : World) (hc : c.okW w) (hs : SmallP c) (KC : BoxAt w bc [c.rv, c.gv, c.tv, c.ev, c.cv])
    (hret : ∀ (a' : Act) (W : World), a'.tmps.getD 2 undef = .bool false → a'.defers = [] → Below w.heap.size w W → ¬ (∀ (i : Nat) (t : Bd), c.threads[i]? = some t → (t.slots.length ≤ 64 ∧ 1 ≤ t.code.length ∧ t.code.length ≤ 256 ∧ 0 ≤ t.most ∧ t.most ≤ 4096) ∧ ∀ (j : Nat) (l : Loc), t.slots[j]? = some l → locOk c.recs.length l = true) → Q .ret a' W)
    (hnext : ∀ (a' : Act) (W : World), a'.tmps.size = 324 → a'.tmps.getD 1 undef = .pointer (some ⟨bc, 0, none⟩) → a'.defers = [] → Below w.heap.size w W → (∀ (i : Nat) (t : Bd), c.threads[i]? = some t → (t.slots.length ≤ 64 ∧ 1 ≤ t.code.length ∧ t.code.length ≤ 256 ∧ 0 ≤ t.most ∧ t.most ≤ 4096) ∧ ∀ (j : Nat) (l : Loc), t.slots[j]? = some l → locOk c.recs.length l = true) → Q .normal a' W) :
    ((((Tryd.f14.body.map spineC).getD [])[4]?).getD Code.skip).wp Tryd.prog Q ⟨(g 0 :: .pointer (some ⟨bc, 0, none⟩) :: g 2 :: g 3 :: g 4 :: g 5 :: g 6 :: g 7 :: g 8 :: g 9 :: g 10 :: g 11 :: g 12 :: g 13 :: g 14 :: g 15 :: g 16 :: g 17 :: g 18 :: g 19 :: g 20 :: g 21 :: g 22 :: g 23 :: g 24 :: g 25 :: g 26 :: g 27 :: g 28 :: g 29 :: g 30 :: g 31 :: g 32 :: g 33 :: g 34 :: g 35 :: g 36 :: g 37 :: g 38 :: g 39 :: g 40 :: g 41 :: g 42 :: g 43 :: g 44 :: g 45 :: g 46 :: g 47 :: g 48 :: g 49 :: g 50 :: g 51 :: g 52 :: g 53 :: g 54 :: g 55 :: g 56 :: g 57 :: g 58 :: g 59 :: g 60 :: g 61 :: g 62 :: g 63 :: g 64 :: g 65 :: g 66 :: g 67 :: g 68 :: g 69 :: g 70 :: g 71 :: g 72 :: g 73 :: g 74 :: g 75 :: g 76 :: g 77 :: g 78 :: g 79 :: g 80 :: g 81 :: g 82 :: g 83 :: g 84 :: g 85 :: g 86 :: g 87 :: g 88 :: g 89 :: g 90 :: g 91 :: g 92 :: g 93 :: g 94 :: g 95 :: g 96 :: g 97 :: g 98 :: g 99 :: g 100 :: g 101 :: g 102 :: g 103 :: g 104 :: g 105 :: g 106 :: g 107 :: g 108 :: g 109 :: g 110 :: g 111 :: g 112 :: g 113 :: g 114 :: g 115 :: g 116 :: g 117 :: g 118 :: g 119 :: g 120 :: g 121 :: g 122 :: g 123 :: g 124 :: g 125 :: g 126 :: g 127 :: g 128 :: g 129 :: g 130 :: g 131 :: g 132 :: g 133 :: g 134 :: g 135 :: g 136 :: g 137 :: g 138 :: g 139 :: g 140 :: g 141 :: g 142 :: g 143 :: g 144 :: g 145 :: g 146 :: g 147 :: g 148 :: g 149 :: g 150 :: g 151 :: g 152 :: g 153 :: g 154 :: g 155 :: g 156 :: g 157 :: g 158 :: g 159 :: g 160 :: g 161 :: g 162 :: g 163 :: g 164 :: g 165 :: g 166 :: g 167 :: g 168 :: g 169 :: g 170 :: g 171 :: g 172 :: g 173 :: g 174 :: g 175 :: g 176 :: g 177 :: g 178 :: g 179 :: g 180 :: g 181 :: g 182 :: g 183 :: g 184 :: g 185 :: g 186 :: g 187 :: g 188 :: g 189 :: g 190 :: g 191 :: g 192 :: g 193 :: g 194 :: g 195 :: g 196 :: g 197 :: g 198 :: g 199 :: g 200 :: g 201 :: g 202 :: g 203 :: g 204 :: g 205 :: g 206 :: g 207 :: g 208 :: g 209 :: g 210 :: g 211 :: g 212 :: g 213 :: g 214 :: g 215 :: g 216 :: g 217 :: g 218 :: g 219 :: g 220 :: g 221 :: g 222 :: g 223 :: g 224 :: g 225 :: g 226 :: g 227 :: g 228 :: g 229 :: g 230 :: g 231 :: g 232 :: g 233 :: g 234 :: g 235 :: g 236 :: g 237 :: g 238 :: g 239 :: g 240 :: g 241 :: g 242 :: g 243 :: g 244 :: g 245 :: g 246 :: g 247 :: g 248 :: g 249 :: g 250 :: g 251 :: g 252 :: g 253 :: g 254 :: g 255 :: g 256 :: g 257 :: g 258 :: g 259 :: g 260 :: g 261 :: g 262 :: g 263 :: g 264 :: g 265 :: g 266 :: g 267 :: g 268 :: g 269 :: g 270 :: g 271 :: g 272 :: g 273 :: g 274 :: g 275 :: g 276 :: g 277 :: g 278 :: g 279 :: g 280 :: g 281 :: g 282 :: g 283 :: g 284 :: g 285 :: g 286 :: g 287 :: g 288 :: g 289 :: g 290 :: g 291 :: g 292 :: g 293 :: g 294 :: g 295 :: g 296 :: g 297 :: g 298 :: g 299 :: g 300 :: g 301 :: g 302 :: g 303 :: g 304 :: g 305 :: g 306 :: g 307 :: g 308 :: g 309 :: g 310 :: g 311 :: g 312 :: g 313 :: g 314 :: g 315 :: g 316 :: g 317 :: g 318 :: g 319 :: g 320 :: g 321 :: g 322 :: g 323 :: []).toArray, []⟩ w := by
  obtain ⟨a0, p0, a1, p1, a2, p2, a3, p3, a4, p4, e0, e1, e2, e3, e4⟩ := cd_open hc
  obtain ⟨at', ct, et, hT⟩ := bd_cells hc.2.2.1
  rw [e2] at et; cases et
  have hslots := hid hs.slots
  rw [e0, e1, e2, e3, e4] at KC
  have q3 : c.threads.length ≤ 1000 := hs.l3
  clear e0 e1 e2 e3 e4 hc hs
  have lc := KC.1
  have B0 := hid (Below.refl w.heap.size w)
  replace KC := hid KC
  replace hT := hid hT
  replace hret := hid hret
  replace hnext := hid hnext
  have DL := hid (fun (l : Loc) W => rlocal_any a0 c.recs.length p0 (.slice a1 c.globs.length p1) (.slice a2 c.threads.length p2) (.slice a3 c.sites.length p3) (.slice a4 c.secs.length p4) l W)
  conv => arg 2; whnf
  have c2 := KC.out.2 2 _ rfl
  go_wp2_with fail
  clear c2
  go_loopw [90] (fun t wr => ∃ j : Nat, t = .int .i64 j ∧ j ≤ c.threads.length ∧ Hid (∀ (i : Nat) (t : Bd), i < j → c.threads[i]? = some t → (t.slots.length ≤ 64 ∧ 1 ≤ t.code.length ∧ t.code.length ≤ 256 ∧ 0 ≤ t.most ∧ t.most ≤ 4096) ∧ ∀ (j : Nat) (l : Loc), t.slots[j]? = some l → locOk c.recs.length l = true) ∧ Hid (Below w.heap.size w wr)) (fun t _ => c.threads.length - (intOf t).toNat)
  case atStart => exact ⟨0, rfl, by omega, hid (fun i x h => by omega), B0⟩
  case round =>
    clear B0
    obtain ⟨i, rfl, hi, E, B⟩ := hrel
    by_cases hin : i < c.threads.length
    · obtain ⟨x, b, off, a5, p5, a6, p6, hx, ha, hb, e5, e6, u0, u1, u2, ok⟩ := hT.out i hin
      cases ha
      rw [← B.out.cell hb] at u0 u1 u2
      have qs := hslots.out i x hx
      have hS := ok.2.1
      rw [e5] at hS
      have B2 := hid (B.out.alloc B.out.size (.cells #[.slice a5 x.slots.length p5, .slice a6 x.code.length p6, .int .i64 x.most] 55))
      replace hx := hid hx
      replace hS := hid hS
      clear e5 e6 ok hT
      by_cases q0 : x.slots.length ≤ 64
      rotate_left
      · have k := big q0
        clear E DL hS KC
        go_wp2_with fail
        exact hret.out _ _ rfl rfl B2.out (fun h => absurd (h i x hx.out).1.1 (by omega))
      by_cases q1 : 1 ≤ x.code.length
      rotate_left
      · have k := (show (x.code.length : Int) < 1 by omega)
        have k0 := low q0
        clear E DL hS KC
        go_wp2_with fail
        exact hret.out _ _ rfl rfl B2.out (fun h => absurd (h i x hx.out).1.2.1 (by omega))
      by_cases q2 : x.code.length ≤ 256
      rotate_left
      · have k := big q2
        have k0 := low q0
        have k1 := (show (1 : Int) ≤ (x.code.length : Int) by omega)
        clear E DL hS KC
        go_wp2_with fail
        exact hret.out _ _ rfl rfl B2.out (fun h => absurd (h i x hx.out).1.2.2.1 (by omega))
      by_cases q3m : 0 ≤ x.most
      rotate_left
      · have k := (show x.most < 0 by omega)
        have k0 := low q0
        have k1 := (show (1 : Int) ≤ (x.code.length : Int) by omega)
        have k2 := low q2
        clear E DL hS KC
        go_wp2_with fail
        exact hret.out _ _ rfl rfl B2.out (fun h => absurd (h i x hx.out).1.2.2.2.1 (by omega))
      by_cases q4 : x.most ≤ 4096
      rotate_left
      · have k := (show (4096 : Int) < x.most by omega)
        have k0 := low q0
        have k1 := (show (1 : Int) ≤ (x.code.length : Int) by omega)
        have k2 := low q2
        have k3 := q3m
        clear E DL hS KC
        go_wp2_with fail
        exact hret.out _ _ rfl rfl B2.out (fun h => absurd (h i x hx.out).1.2.2.2.2 (by omega))
      have k0 := low q0
      have k1 := (show (1 : Int) ≤ (x.code.length : Int) by omega)
      have k2 := low q2
      have k3 := q3m
      have k4 := q4
      go_wp2_with fail
      clear u0 u1 u2
      go_loopw [123] (fun t wr' => ∃ k : Nat, t = .int .i64 k ∧ k ≤ x.slots.length ∧ Hid (∀ (m : Nat) (y : Loc), m < k → x.slots[m]? = some y → locOk c.recs.length y = true) ∧ Hid (Below w.heap.size w wr')) (fun t _ => x.slots.length - (intOf t).toNat)
      case atStart => exact ⟨0, rfl, by omega, hid (fun i x h => by omega), B2⟩
      case round =>
        clear B B2
        obtain ⟨k, rfl, hk, E3, B⟩ := hrel
        by_cases hkn : k < x.slots.length
        · obtain ⟨y, hy⟩ : ∃ y, x.slots[k]? = some y := ⟨x.slots[k], by simp [hkn]⟩
          obtain ⟨bs, os, cs, es, hbs, v0, v1, v2⟩ := loc_cells hS.out hy
          cases es
          rw [← B.out.cell hbs] at v0 v1 v2
          have KC2 := hid (KC.out.kept B.out)
          obtain ⟨c0, c1, c2, c3, c4⟩ := five0 KC2.out
          have lc2 : _ < _ := KC2.out.1
          clear KC2
          have DL2 := hid (DL.out y)
          have B4 := hid (B.out.alloc B.out.size (.cells #[.int .i64 y.kind, .int .i64 y.rc, .bool y.once] 60))
          replace hy := hid hy
          cases hq : locOk c.recs.length y
          · have G : Hid (¬ (∀ (i : Nat) (t : Bd), c.threads[i]? = some t → (t.slots.length ≤ 64 ∧ 1 ≤ t.code.length ∧ t.code.length ≤ 256 ∧ 0 ≤ t.most ∧ t.most ≤ 4096) ∧ ∀ (j : Nat) (l : Loc), t.slots[j]? = some l → locOk c.recs.length l = true)) := hid (fun h => by rw [(h i x hx.out).2 k y hy.out] at hq; cases hq)
            rw [hq] at DL2
            clear E E3 hq hS DL
            go_wp2_with (go_at_call 19; refine Calls.mono (DL2.out _) ?_; rintro e w3 ⟨rfl, hb3⟩)
            exact hret.out _ _ rfl rfl (bover B4.out hb3) G.out
          · rw [hq] at DL2
            replace hq := hid hq
            clear hS DL
            go_wp2_with (go_at_call 19; refine Calls.mono (DL2.out _) ?_; rintro e w3 ⟨rfl, hb3⟩)
            go_roundw
            case rel =>
              refine ⟨k + 1, by go_num, by omega, hid (fun m z hm hz => ?_), bover B4.out hb3⟩
              by_cases hmk : m < k
              · exact E3.out m z hmk hz
              · obtain rfl : m = k := by omega
                rw [hy.out] at hz
                cases hz
                exact hq.out
            case measure => simp [intOf]; omega
        · have R3 : Hid (∀ (m : Nat) (y : Loc), x.slots[m]? = some y → locOk c.recs.length y = true) := hid (fun m y hy => E3.out m y (by have := (List.getElem?_eq_some_iff.1 hy).1; omega) hy)
          have R4 := hid (show x.slots.length ≤ 64 ∧ 1 ≤ x.code.length ∧ x.code.length ≤ 256 ∧ 0 ≤ x.most ∧ x.most ≤ 4096 from ⟨q0, q1, q2, q3m, q4⟩)
          clear E3 DL hS
          go_wp2_with fail
          go_roundw
          case rel =>
            refine ⟨i + 1, by go_num, by omega, hid (fun m z hm hz => ?_), B⟩
            by_cases hmk : m < i
            · exact E.out m z hmk hz
            · obtain rfl : m = i := by omega
              rw [hx.out] at hz
              cases hz
              exact ⟨R4.out, R3.out⟩
          case measure => simp [intOf]; omega
    · have R2 : Hid (∀ (i : Nat) (t : Bd), c.threads[i]? = some t → (t.slots.length ≤ 64 ∧ 1 ≤ t.code.length ∧ t.code.length ≤ 256 ∧ 0 ≤ t.most ∧ t.most ≤ 4096) ∧ ∀ (j : Nat) (l : Loc), t.slots[j]? = some l → locOk c.recs.length l = true) := hid (fun i t ht => E.out i t (by have := (List.getElem?_eq_some_iff.1 ht).1; omega) ht)
      clear E hT DL
      go_wp2_with fail
      exact hnext.out _ _ rfl rfl rfl B.out R2.out
end Go.Proofs.YtdpbapoahfggeaaDoor

/- The document's Good: the row of all rows of cells. -/
namespace Go.Proofs.YtdpbapoahfggeaaDoor
open Go.ChangeShapes Go.WideShapes Go.ChangeAt Go.RowKit
set_option linter.unusedVariables false
set_option linter.unusedSimpArgs false

/-- The rows of cells: the globals, then each record. -/
def allRows (c : Cd) : List Rl := ⟨c.globs, c.gv⟩ :: c.recs
/-- They lie at a block, one cell each. -/
def AllAt (c : Cd) (gb : Nat) (W : World) : Prop := gb < W.heap.size ∧ ∀ (j : Nat) (r : Rl), (allRows c)[j]? = some r → W.cell? ⟨gb, j, none⟩ = some r.fv
theorem AllAt.kept {c : Cd} {gb : Nat} {W W' : World} (h : AllAt c gb W) (k : Below W.heap.size W W') : AllAt c gb W' :=
  ⟨Nat.lt_of_lt_of_le h.1 k.size, fun j r hr => (k.cell (p := ⟨gb, j, none⟩) h.1).trans (h.2 j r hr)⟩
theorem rl_ones {w : World} {v : Value} {l : List Rl} (h : Rls w v l) : ∀ x ∈ l.flatMap Rl.cells, x.oneCell' = true := by
  intro x hx
  obtain ⟨t, ht, hx⟩ := List.mem_flatMap.1 hx
  obtain ⟨i, hi, rfl⟩ := List.getElem_of_mem ht
  obtain ⟨a, cap, e, hr⟩ := h.at
  obtain ⟨y, b, off, hy, _, _, _, ok⟩ := hr i hi
  have e2 : l[i] = y := by
    rw [List.getElem?_eq_getElem hi] at hy
    exact Option.some.inj hy
  rw [e2] at hx
  simp only [Rl.cells, List.mem_singleton] at hx
  subst hx
  obtain ⟨a2, c2, e3⟩ := RowOf.form ok
  rw [e3]; rfl
theorem flat_rl (l : List Rl) : l.flatMap Rl.cells = l.map (·.fv) := by
  induction l with
  | nil => rfl
  | cons a l ih => simp only [List.flatMap_cons, List.map_cons, ih]; rfl
theorem own_pos2 {w : World} {base : Nat} {e : TypeId} {size n m : Nat} {v : Value} {xs : List Value} (h : w.ownsRow base e size v n xs) (hm : n = m) (hp : 0 < m) :
    ∃ g cap cur, v = .slice (some ⟨g, 0, none⟩) m cap ∧ base ≤ g ∧ m ≤ cap ∧ cap ≤ maxLen ∧ w.heap[g]? = some (.cells cur e (0, 0)) ∧ cur.toList.take (m * size) = xs := by
  subst hm
  rcases h.2 with ⟨rfl, h0⟩ | ⟨g, cap, cur, rfl, hbg, hg, hnc, hcm, hcs, htake⟩
  · omega
  · exact ⟨g, cap, cur, rfl, hbg, hnc, hcm, hg, htake⟩
theorem own_ge2 {b n : Nat} {v : Value} (h : n ≤ b) : ∀ g, (Value.slice (some ⟨b, 0, none⟩) 1 1).ownBlock = some g → n ≤ g := by
  intro g hg
  simp [Value.ownBlock] at hg
  omega

set_option maxRecDepth 100000 in
set_option maxHeartbeats 4000000 in
theorem stm2_any {Q : Exit → Act → World → Prop} {g : Nat → Value} {bc : Nat} (c : Cd) (w : World) (hc : c.okW w) (hs : SmallP c) (KC : BoxAt w bc [c.rv, c.gv, c.tv, c.ev, c.cv])
    (hnext : ∀ (a' : Act) (W : World) (gb cap : Nat), a'.tmps.size = 324 → a'.tmps.getD 1 undef = .pointer (some ⟨bc, 0, none⟩) → a'.tmps.getD 3 undef = .slice (some ⟨gb, 0, none⟩) (c.recs.length + 1) cap → a'.defers = [] → Below w.heap.size w W → AllAt c gb W → Q .normal a' W) :
    ((((Tryd.f14.body.map spineC).getD [])[2]?).getD Code.skip).wp Tryd.prog Q ⟨(g 0 :: .pointer (some ⟨bc, 0, none⟩) :: g 2 :: g 3 :: g 4 :: g 5 :: g 6 :: g 7 :: g 8 :: g 9 :: g 10 :: g 11 :: g 12 :: g 13 :: g 14 :: g 15 :: g 16 :: g 17 :: g 18 :: g 19 :: g 20 :: g 21 :: g 22 :: g 23 :: g 24 :: g 25 :: g 26 :: g 27 :: g 28 :: g 29 :: g 30 :: g 31 :: g 32 :: g 33 :: g 34 :: g 35 :: g 36 :: g 37 :: g 38 :: g 39 :: g 40 :: g 41 :: g 42 :: g 43 :: g 44 :: g 45 :: g 46 :: g 47 :: g 48 :: g 49 :: g 50 :: g 51 :: g 52 :: g 53 :: g 54 :: g 55 :: g 56 :: g 57 :: g 58 :: g 59 :: g 60 :: g 61 :: g 62 :: g 63 :: g 64 :: g 65 :: g 66 :: g 67 :: g 68 :: g 69 :: g 70 :: g 71 :: g 72 :: g 73 :: g 74 :: g 75 :: g 76 :: g 77 :: g 78 :: g 79 :: g 80 :: g 81 :: g 82 :: g 83 :: g 84 :: g 85 :: g 86 :: g 87 :: g 88 :: g 89 :: g 90 :: g 91 :: g 92 :: g 93 :: g 94 :: g 95 :: g 96 :: g 97 :: g 98 :: g 99 :: g 100 :: g 101 :: g 102 :: g 103 :: g 104 :: g 105 :: g 106 :: g 107 :: g 108 :: g 109 :: g 110 :: g 111 :: g 112 :: g 113 :: g 114 :: g 115 :: g 116 :: g 117 :: g 118 :: g 119 :: g 120 :: g 121 :: g 122 :: g 123 :: g 124 :: g 125 :: g 126 :: g 127 :: g 128 :: g 129 :: g 130 :: g 131 :: g 132 :: g 133 :: g 134 :: g 135 :: g 136 :: g 137 :: g 138 :: g 139 :: g 140 :: g 141 :: g 142 :: g 143 :: g 144 :: g 145 :: g 146 :: g 147 :: g 148 :: g 149 :: g 150 :: g 151 :: g 152 :: g 153 :: g 154 :: g 155 :: g 156 :: g 157 :: g 158 :: g 159 :: g 160 :: g 161 :: g 162 :: g 163 :: g 164 :: g 165 :: g 166 :: g 167 :: g 168 :: g 169 :: g 170 :: g 171 :: g 172 :: g 173 :: g 174 :: g 175 :: g 176 :: g 177 :: g 178 :: g 179 :: g 180 :: g 181 :: g 182 :: g 183 :: g 184 :: g 185 :: g 186 :: g 187 :: g 188 :: g 189 :: g 190 :: g 191 :: g 192 :: g 193 :: g 194 :: g 195 :: g 196 :: g 197 :: g 198 :: g 199 :: g 200 :: g 201 :: g 202 :: g 203 :: g 204 :: g 205 :: g 206 :: g 207 :: g 208 :: g 209 :: g 210 :: g 211 :: g 212 :: g 213 :: g 214 :: g 215 :: g 216 :: g 217 :: g 218 :: g 219 :: g 220 :: g 221 :: g 222 :: g 223 :: g 224 :: g 225 :: g 226 :: g 227 :: g 228 :: g 229 :: g 230 :: g 231 :: g 232 :: g 233 :: g 234 :: g 235 :: g 236 :: g 237 :: g 238 :: g 239 :: g 240 :: g 241 :: g 242 :: g 243 :: g 244 :: g 245 :: g 246 :: g 247 :: g 248 :: g 249 :: g 250 :: g 251 :: g 252 :: g 253 :: g 254 :: g 255 :: g 256 :: g 257 :: g 258 :: g 259 :: g 260 :: g 261 :: g 262 :: g 263 :: g 264 :: g 265 :: g 266 :: g 267 :: g 268 :: g 269 :: g 270 :: g 271 :: g 272 :: g 273 :: g 274 :: g 275 :: g 276 :: g 277 :: g 278 :: g 279 :: g 280 :: g 281 :: g 282 :: g 283 :: g 284 :: g 285 :: g 286 :: g 287 :: g 288 :: g 289 :: g 290 :: g 291 :: g 292 :: g 293 :: g 294 :: g 295 :: g 296 :: g 297 :: g 298 :: g 299 :: g 300 :: g 301 :: g 302 :: g 303 :: g 304 :: g 305 :: g 306 :: g 307 :: g 308 :: g 309 :: g 310 :: g 311 :: g 312 :: g 313 :: g 314 :: g 315 :: g 316 :: g 317 :: g 318 :: g 319 :: g 320 :: g 321 :: g 322 :: g 323 :: []).toArray, []⟩ w := by
  obtain ⟨a0, p0, a1, p1, a2, p2, a3, p3, a4, p4, e0, e1, e2, e3, e4⟩ := cd_open hc
  have hre := hc.1
  rw [e0] at hre
  rw [e0, e1, e2, e3, e4] at KC
  have x0 : c.recs.length ≤ 1000 := hs.l1
  have B0 := (Below.refl w.heap.size w).alloc (Nat.le_refl _) (.cells #[.slice a1 c.globs.length p1] 36)
  have OW : (w.alloc (.cells #[.slice a1 c.globs.length p1] 36)).ownsRow w.heap.size 36 1 (.slice (some ⟨w.heap.size, 0, none⟩) 1 1) 1 [.slice a1 c.globs.length p1] :=
    ⟨by simp, .inr ⟨w.heap.size, 1, #[.slice a1 c.globs.length p1], rfl, Nat.le_refl _, heap_alloc_new _ _, Nat.le_refl _, by simp [maxLen], by simp, by simp⟩⟩
  have HU := hid (Rls.kept hre B0)
  have H1 := hid (rl_ones HU.out)
  have AR : Hid (∀ (cur : Array Value) (m : Nat), m = 1 + c.recs.length → cur.toList.take (m * 1) = [.slice a1 c.globs.length p1] ++ c.recs.flatMap Rl.cells → ∀ (j : Nat) (r : Rl), (allRows c)[j]? = some r → cur[j]? = some r.fv) := hid (fun cur m hm ht j r hr => by
    have hj := (List.getElem?_eq_some_iff.1 hr).1
    have hj2 : j < m := by unfold allRows at hj; simp only [List.length_cons] at hj; omega
    have e : cur.toList[j]? = (cur.toList.take (m * 1))[j]? := by rw [List.getElem?_take_of_lt (by omega)]
    rw [← Array.getElem?_toList, e, ht, flat_rl]
    unfold allRows at hr
    cases j with
    | zero =>
      simp at hr
      subst hr
      simp [e1]
    | succ j =>
      simp at hr
      simp [hr])
  obtain ⟨c0, c1, c2, c3, c4⟩ := five0 KC
  replace B0 := hid B0
  replace OW := hid OW
  replace hnext := hid hnext
  have hbase := hid (show w.heap.size ≤ (w.alloc (.cells #[.slice a1 c.globs.length p1] 36)).heap.size by simp)
  have h63 := hid (show 1 + c.recs.length ≤ 2000000 by omega)
  have lc : bc < w.heap.size := KC.1
  clear e0 e1 e2 e3 e4 hc hs hre KC
  conv => arg 2; whnf
  go_wp2_with (refine wl_append_row rfl _ _ 35 rfl w.heap.size 36 (.slice none 0 0) 1 24 Tryd.underlying35 (by kernel_rfl) rfl (by omega) (.slice (some ⟨w.heap.size, 0, none⟩) 1 1) rfl 1 [.slice a1 c.globs.length p1] OW.out _ rfl (cells := Rl.cells) (ok := Rl.okW) (fun _ => rfl) c.recs HU.out H1.out h63.out (by omega) hbase.out ?_; intro v' w6 ho hg hbk; obtain ⟨gb, cap, cur, hv', hgb, hcap, hcm, hgc, htk⟩ := own_pos2 ho (m := c.recs.length + 1) (by omega) (by omega); subst hv'; have B6 := hid (B0.out.grown hg B0.out.size (own_ge2 (v := .bool false) (Nat.le_refl _))); replace hgc := hid hgc; replace htk := hid htk; replace hcap := hid hcap; replace hcm := hid hcm; clear ho hg hbk OW HU H1 hbase h63 B0)
  refine hnext.out _ _ gb cap rfl rfl rfl rfl B6.out ⟨(Array.getElem?_eq_some_iff.1 hgc.out).1, fun j r hr => ?_⟩
  rw [cell_of_row _ _ j _ _ _ hgc.out]
  exact AR.out cur _ (by omega) htk.out j r hr
end Go.Proofs.YtdpbapoahfggeaaDoor

/- The document's Good: its loop over the rows of cells. -/
namespace Go.Proofs.YtdpbapoahfggeaaDoor
open Go.ChangeShapes Go.WideShapes Go.ChangeAt Go.RowKit
set_option linter.unusedVariables false
set_option linter.unusedSimpArgs false

set_option maxRecDepth 100000 in
set_option maxHeartbeats 4000000 in
theorem stm3_any {Q : Exit → Act → World → Prop} {g : Nat → Value} {bc gb cap : Nat} (c : Cd) (w : World) (hc : c.okW w) (hs : SmallP c) (KC : BoxAt w bc [c.rv, c.gv, c.tv, c.ev, c.cv]) (hA : AllAt c gb w)
    (hret : ∀ (a' : Act) (W : World), a'.tmps.getD 2 undef = .bool false → a'.defers = [] → Below w.heap.size w W → ¬ (∀ (i : Nat) (r : Rl), (allRows c)[i]? = some r → (0 < i → r.flds.length ≤ 6) ∧ ∀ (m : Nat) (l : Loc), r.flds[m]? = some l → cellOk c.recs.length l = true) → Q .ret a' W)
    (hnext : ∀ (a' : Act) (W : World), a'.tmps.size = 324 → a'.tmps.getD 1 undef = .pointer (some ⟨bc, 0, none⟩) → a'.defers = [] → Below w.heap.size w W → (∀ (i : Nat) (r : Rl), (allRows c)[i]? = some r → (0 < i → r.flds.length ≤ 6) ∧ ∀ (m : Nat) (l : Loc), r.flds[m]? = some l → cellOk c.recs.length l = true) → Q .normal a' W) :
    ((((Tryd.f14.body.map spineC).getD [])[3]?).getD Code.skip).wp Tryd.prog Q ⟨(g 0 :: .pointer (some ⟨bc, 0, none⟩) :: g 2 :: .slice (some ⟨gb, 0, none⟩) (c.recs.length + 1) cap :: g 4 :: g 5 :: g 6 :: g 7 :: g 8 :: g 9 :: g 10 :: g 11 :: g 12 :: g 13 :: g 14 :: g 15 :: g 16 :: g 17 :: g 18 :: g 19 :: g 20 :: g 21 :: g 22 :: g 23 :: g 24 :: g 25 :: g 26 :: g 27 :: g 28 :: g 29 :: g 30 :: g 31 :: g 32 :: g 33 :: g 34 :: g 35 :: g 36 :: g 37 :: g 38 :: g 39 :: g 40 :: g 41 :: g 42 :: g 43 :: g 44 :: g 45 :: g 46 :: g 47 :: g 48 :: g 49 :: g 50 :: g 51 :: g 52 :: g 53 :: g 54 :: g 55 :: g 56 :: g 57 :: g 58 :: g 59 :: g 60 :: g 61 :: g 62 :: g 63 :: g 64 :: g 65 :: g 66 :: g 67 :: g 68 :: g 69 :: g 70 :: g 71 :: g 72 :: g 73 :: g 74 :: g 75 :: g 76 :: g 77 :: g 78 :: g 79 :: g 80 :: g 81 :: g 82 :: g 83 :: g 84 :: g 85 :: g 86 :: g 87 :: g 88 :: g 89 :: g 90 :: g 91 :: g 92 :: g 93 :: g 94 :: g 95 :: g 96 :: g 97 :: g 98 :: g 99 :: g 100 :: g 101 :: g 102 :: g 103 :: g 104 :: g 105 :: g 106 :: g 107 :: g 108 :: g 109 :: g 110 :: g 111 :: g 112 :: g 113 :: g 114 :: g 115 :: g 116 :: g 117 :: g 118 :: g 119 :: g 120 :: g 121 :: g 122 :: g 123 :: g 124 :: g 125 :: g 126 :: g 127 :: g 128 :: g 129 :: g 130 :: g 131 :: g 132 :: g 133 :: g 134 :: g 135 :: g 136 :: g 137 :: g 138 :: g 139 :: g 140 :: g 141 :: g 142 :: g 143 :: g 144 :: g 145 :: g 146 :: g 147 :: g 148 :: g 149 :: g 150 :: g 151 :: g 152 :: g 153 :: g 154 :: g 155 :: g 156 :: g 157 :: g 158 :: g 159 :: g 160 :: g 161 :: g 162 :: g 163 :: g 164 :: g 165 :: g 166 :: g 167 :: g 168 :: g 169 :: g 170 :: g 171 :: g 172 :: g 173 :: g 174 :: g 175 :: g 176 :: g 177 :: g 178 :: g 179 :: g 180 :: g 181 :: g 182 :: g 183 :: g 184 :: g 185 :: g 186 :: g 187 :: g 188 :: g 189 :: g 190 :: g 191 :: g 192 :: g 193 :: g 194 :: g 195 :: g 196 :: g 197 :: g 198 :: g 199 :: g 200 :: g 201 :: g 202 :: g 203 :: g 204 :: g 205 :: g 206 :: g 207 :: g 208 :: g 209 :: g 210 :: g 211 :: g 212 :: g 213 :: g 214 :: g 215 :: g 216 :: g 217 :: g 218 :: g 219 :: g 220 :: g 221 :: g 222 :: g 223 :: g 224 :: g 225 :: g 226 :: g 227 :: g 228 :: g 229 :: g 230 :: g 231 :: g 232 :: g 233 :: g 234 :: g 235 :: g 236 :: g 237 :: g 238 :: g 239 :: g 240 :: g 241 :: g 242 :: g 243 :: g 244 :: g 245 :: g 246 :: g 247 :: g 248 :: g 249 :: g 250 :: g 251 :: g 252 :: g 253 :: g 254 :: g 255 :: g 256 :: g 257 :: g 258 :: g 259 :: g 260 :: g 261 :: g 262 :: g 263 :: g 264 :: g 265 :: g 266 :: g 267 :: g 268 :: g 269 :: g 270 :: g 271 :: g 272 :: g 273 :: g 274 :: g 275 :: g 276 :: g 277 :: g 278 :: g 279 :: g 280 :: g 281 :: g 282 :: g 283 :: g 284 :: g 285 :: g 286 :: g 287 :: g 288 :: g 289 :: g 290 :: g 291 :: g 292 :: g 293 :: g 294 :: g 295 :: g 296 :: g 297 :: g 298 :: g 299 :: g 300 :: g 301 :: g 302 :: g 303 :: g 304 :: g 305 :: g 306 :: g 307 :: g 308 :: g 309 :: g 310 :: g 311 :: g 312 :: g 313 :: g 314 :: g 315 :: g 316 :: g 317 :: g 318 :: g 319 :: g 320 :: g 321 :: g 322 :: g 323 :: []).toArray, []⟩ w := by
  obtain ⟨a0, p0, a1, p1, a2, p2, a3, p3, a4, p4, e0, e1, e2, e3, e4⟩ := cd_open hc
  have x0 : c.recs.length ≤ 1000 := hs.l1
  have HR : Hid (∀ j, j < c.recs.length + 1 → ∃ (r : Rl) (ar : Option Addr) (pr : Nat), (allRows c)[j]? = some r ∧ r.fv = .slice ar r.flds.length pr ∧ Locs w (.slice ar r.flds.length pr) r.flds ∧ r.flds.length ≤ 1000) := hid (fun j hj => by
    cases j with
    | zero => exact ⟨_, a1, p1, rfl, e1, by have h := hc.2.1; rw [e1] at h; exact h, hs.l2⟩
    | succ j =>
      have hjr : j < c.recs.length := by omega
      obtain ⟨r, hr⟩ : ∃ r, c.recs[j]? = some r := ⟨c.recs[j], by simp [hjr]⟩
      obtain ⟨_, _, _, _, _, _, hl⟩ := rl_cells hc.1 hr
      obtain ⟨ar, pr, er⟩ := hl.form
      exact ⟨r, ar, pr, by unfold allRows; simpa using hr, er, by rw [er] at hl; exact hl, hs.flds j r hr⟩)
  rw [e0, e1, e2, e3, e4] at KC
  clear e0 e1 e2 e3 e4 hc hs
  have lc := KC.1
  have lg := hA.1
  have B0 := hid (Below.refl w.heap.size w)
  replace KC := hid KC
  replace hA := hid hA
  replace hret := hid hret
  replace hnext := hid hnext
  have DL := hid (fun (l : Loc) W => rlocal_any a0 c.recs.length p0 (.slice a1 c.globs.length p1) (.slice a2 c.threads.length p2) (.slice a3 c.sites.length p3) (.slice a4 c.secs.length p4) l W)
  conv => arg 2; whnf
  go_wp2_with fail
  go_loopw [59] (fun t wr => ∃ j : Nat, t = .int .i64 j ∧ j ≤ c.recs.length + 1 ∧ Hid (∀ (i : Nat) (r : Rl), i < j → (allRows c)[i]? = some r → (0 < i → r.flds.length ≤ 6) ∧ ∀ (m : Nat) (l : Loc), r.flds[m]? = some l → cellOk c.recs.length l = true) ∧ Hid (Below w.heap.size w wr)) (fun t _ => c.recs.length + 1 - (intOf t).toNat)
  case atStart => exact ⟨0, rfl, by omega, hid (fun i x h => by omega), B0⟩
  case round =>
    clear B0
    obtain ⟨i, rfl, hi, E, B⟩ := hrel
    by_cases hin : i < c.recs.length + 1
    rotate_left
    · have R2 : Hid (∀ (i : Nat) (r : Rl), (allRows c)[i]? = some r → (0 < i → r.flds.length ≤ 6) ∧ ∀ (m : Nat) (l : Loc), r.flds[m]? = some l → cellOk c.recs.length l = true) := hid (fun i t ht => E.out i t (by have := (List.getElem?_eq_some_iff.1 ht).1; unfold allRows at this; simp only [List.length_cons] at this; omega) ht)
      clear E HR hA
      go_wp2_with fail
      exact hnext.out _ _ rfl rfl rfl B.out R2.out
    obtain ⟨r, ar, pr, hr, er, hL, hl1000⟩ := HR.out i hin
    have u0 := hA.out.2 i r hr
    rw [er] at u0
    rw [← B.out.cell lg] at u0
    replace hr := hid hr
    replace hL := hid hL
    have ini : (i : Int) < ((c.recs.length + 1 : Nat) : Int) := by omega
    have ini2 : (i : Int) < (c.recs.length : Int) + 1 := by omega
    clear er HR hA
    by_cases h0 : 0 < i
    · have h0' : (0 : Int) < (i : Int) := by omega
      by_cases h6 : r.flds.length ≤ 6
      rotate_left
      · have k := big h6
        have G : Hid (¬ (∀ (i : Nat) (r : Rl), (allRows c)[i]? = some r → (0 < i → r.flds.length ≤ 6) ∧ ∀ (m : Nat) (l : Loc), r.flds[m]? = some l → cellOk c.recs.length l = true)) := hid (fun h => h6 ((h i r hr.out).1 h0))
        clear E DL hL KC
        go_wp2_with fail
        exact hret.out _ _ rfl rfl B.out G.out
      have k := low h6
      have H6 : Hid (0 < i → r.flds.length ≤ 6) := hid (fun _ => h6)
      go_wp2_with fail
      clear u0
      go_loopw [73] (fun t wr' => ∃ k : Nat, t = .int .i64 k ∧ k ≤ r.flds.length ∧ Hid (∀ (m : Nat) (y : Loc), m < k → r.flds[m]? = some y → cellOk c.recs.length y = true) ∧ Hid (Below w.heap.size w wr')) (fun t _ => r.flds.length - (intOf t).toNat)
      case atStart => exact ⟨0, rfl, by omega, hid (fun i x h => by omega), B⟩
      case round =>
        clear B
        obtain ⟨k, rfl, hk, E3, B⟩ := hrel
        by_cases hkn : k < r.flds.length
        · obtain ⟨y, hy⟩ : ∃ y, r.flds[k]? = some y := ⟨r.flds[k], by simp [hkn]⟩
          obtain ⟨bs, os, cs, es, hbs, v0, v1, v2⟩ := loc_cells hL.out hy
          cases es
          rw [← B.out.cell hbs] at v0 v1 v2
          have KC2 := hid (KC.out.kept B.out)
          obtain ⟨c0, c1, c2, c3, c4⟩ := five0 KC2.out
          have lc2 : _ < _ := KC2.out.1
          clear KC2
          have DL2 := hid (DL.out y)
          have B4 := hid (B.out.alloc B.out.size (.cells #[.int .i64 y.kind, .int .i64 y.rc, .bool y.once] 60))
          replace hy := hid hy
          cases ho : y.once
          rotate_left
          · have G : Hid (¬ (∀ (i : Nat) (r : Rl), (allRows c)[i]? = some r → (0 < i → r.flds.length ≤ 6) ∧ ∀ (m : Nat) (l : Loc), r.flds[m]? = some l → cellOk c.recs.length l = true)) := hid (fun h => by have h2 := (h i r hr.out).2 k y hy.out; unfold cellOk at h2; rw [ho] at h2; cases h2)
            rw [ho] at v2 B4
            clear E E3 hL DL DL2
            go_wp2_with fail
            exact hret.out _ _ rfl rfl B4.out G.out
          rw [ho] at v2 B4 DL2
          cases hq : locOk c.recs.length y
          · have G : Hid (¬ (∀ (i : Nat) (r : Rl), (allRows c)[i]? = some r → (0 < i → r.flds.length ≤ 6) ∧ ∀ (m : Nat) (l : Loc), r.flds[m]? = some l → cellOk c.recs.length l = true)) := hid (fun h => by have h2 := (h i r hr.out).2 k y hy.out; unfold cellOk at h2; rw [hq] at h2; simp at h2)
            rw [hq] at DL2
            clear E E3 hq hL DL
            go_wp2_with (go_at_call 19; refine Calls.mono (DL2.out _) ?_; rintro e w3 ⟨rfl, hb3⟩)
            exact hret.out _ _ rfl rfl (bover B4.out hb3) G.out
          · have hq2 : Hid (cellOk c.recs.length y = true) := hid (by unfold cellOk; rw [ho, hq]; rfl)
            rw [hq] at DL2
            clear hL DL hq
            go_wp2_with (go_at_call 19; refine Calls.mono (DL2.out _) ?_; rintro e w3 ⟨rfl, hb3⟩)
            go_roundw
            case rel =>
              refine ⟨k + 1, by go_num, by omega, hid (fun m z hm hz => ?_), bover B4.out hb3⟩
              by_cases hmk : m < k
              · exact E3.out m z hmk hz
              · obtain rfl : m = k := by omega
                rw [hy.out] at hz
                cases hz
                exact hq2.out
            case measure => simp [intOf]; omega
        · have R3 : Hid (∀ (m : Nat) (y : Loc), r.flds[m]? = some y → cellOk c.recs.length y = true) := hid (fun m y hy => E3.out m y (by have := (List.getElem?_eq_some_iff.1 hy).1; omega) hy)
          clear E3 DL hL
          go_wp2_with fail
          go_roundw
          case rel =>
            refine ⟨i + 1, by go_num, by omega, hid (fun m z hm hz => ?_), B⟩
            by_cases hmk : m < i
            · exact E.out m z hmk hz
            · obtain rfl : m = i := by omega
              rw [hr.out] at hz
              cases hz
              exact ⟨H6.out, R3.out⟩
          case measure => simp [intOf]; omega
    · have h0' : (i : Int) ≤ 0 := by omega
      have H6 : Hid (0 < i → r.flds.length ≤ 6) := hid (fun h => by omega)
      go_wp2_with fail
      clear u0
      go_loopw [73] (fun t wr' => ∃ k : Nat, t = .int .i64 k ∧ k ≤ r.flds.length ∧ Hid (∀ (m : Nat) (y : Loc), m < k → r.flds[m]? = some y → cellOk c.recs.length y = true) ∧ Hid (Below w.heap.size w wr')) (fun t _ => r.flds.length - (intOf t).toNat)
      case atStart => exact ⟨0, rfl, by omega, hid (fun i x h => by omega), B⟩
      case round =>
        clear B
        obtain ⟨k, rfl, hk, E3, B⟩ := hrel
        by_cases hkn : k < r.flds.length
        · obtain ⟨y, hy⟩ : ∃ y, r.flds[k]? = some y := ⟨r.flds[k], by simp [hkn]⟩
          obtain ⟨bs, os, cs, es, hbs, v0, v1, v2⟩ := loc_cells hL.out hy
          cases es
          rw [← B.out.cell hbs] at v0 v1 v2
          have KC2 := hid (KC.out.kept B.out)
          obtain ⟨c0, c1, c2, c3, c4⟩ := five0 KC2.out
          have lc2 : _ < _ := KC2.out.1
          clear KC2
          have DL2 := hid (DL.out y)
          have B4 := hid (B.out.alloc B.out.size (.cells #[.int .i64 y.kind, .int .i64 y.rc, .bool y.once] 60))
          replace hy := hid hy
          cases ho : y.once
          rotate_left
          · have G : Hid (¬ (∀ (i : Nat) (r : Rl), (allRows c)[i]? = some r → (0 < i → r.flds.length ≤ 6) ∧ ∀ (m : Nat) (l : Loc), r.flds[m]? = some l → cellOk c.recs.length l = true)) := hid (fun h => by have h2 := (h i r hr.out).2 k y hy.out; unfold cellOk at h2; rw [ho] at h2; cases h2)
            rw [ho] at v2 B4
            clear E E3 hL DL DL2
            go_wp2_with fail
            exact hret.out _ _ rfl rfl B4.out G.out
          rw [ho] at v2 B4 DL2
          cases hq : locOk c.recs.length y
          · have G : Hid (¬ (∀ (i : Nat) (r : Rl), (allRows c)[i]? = some r → (0 < i → r.flds.length ≤ 6) ∧ ∀ (m : Nat) (l : Loc), r.flds[m]? = some l → cellOk c.recs.length l = true)) := hid (fun h => by have h2 := (h i r hr.out).2 k y hy.out; unfold cellOk at h2; rw [hq] at h2; simp at h2)
            rw [hq] at DL2
            clear E E3 hq hL DL
            go_wp2_with (go_at_call 19; refine Calls.mono (DL2.out _) ?_; rintro e w3 ⟨rfl, hb3⟩)
            exact hret.out _ _ rfl rfl (bover B4.out hb3) G.out
          · have hq2 : Hid (cellOk c.recs.length y = true) := hid (by unfold cellOk; rw [ho, hq]; rfl)
            rw [hq] at DL2
            clear hL DL hq
            go_wp2_with (go_at_call 19; refine Calls.mono (DL2.out _) ?_; rintro e w3 ⟨rfl, hb3⟩)
            go_roundw
            case rel =>
              refine ⟨k + 1, by go_num, by omega, hid (fun m z hm hz => ?_), bover B4.out hb3⟩
              by_cases hmk : m < k
              · exact E3.out m z hmk hz
              · obtain rfl : m = k := by omega
                rw [hy.out] at hz
                cases hz
                exact hq2.out
            case measure => simp [intOf]; omega
        · have R3 : Hid (∀ (m : Nat) (y : Loc), r.flds[m]? = some y → cellOk c.recs.length y = true) := hid (fun m y hy => E3.out m y (by have := (List.getElem?_eq_some_iff.1 hy).1; omega) hy)
          clear E3 DL hL
          go_wp2_with fail
          go_roundw
          case rel =>
            refine ⟨i + 1, by go_num, by omega, hid (fun m z hm hz => ?_), B⟩
            by_cases hmk : m < i
            · exact E.out m z hmk hz
            · obtain rfl : m = i := by omega
              rw [hr.out] at hz
              cases hz
              exact ⟨H6.out, R3.out⟩
          case measure => simp [intOf]; omega
end Go.Proofs.YtdpbapoahfggeaaDoor
