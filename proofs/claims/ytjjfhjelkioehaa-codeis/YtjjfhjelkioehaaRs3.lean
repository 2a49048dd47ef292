/- The document's Good: its loop over the rows of cells. -/
import Derived.Test.YtjjfhjelkioehaaRs2
namespace Go.Proofs.Ytjjfhjelkioehaa
open Go.ChangeShapes Go.WideShapes Go.ChangeAt Go.RowKit
set_option linter.unusedVariables false
set_option linter.unusedSimpArgs false

set_option maxRecDepth 100000 in
set_option maxHeartbeats 4000000 in
theorem stm3_any {Q : Exit → Act → World → Prop} {g : Nat → Value} {bc gb cap : Nat} (c : Cd) (w : World) (hc : c.okW w) (hs : SmallP c) (KC : BoxAt w bc [c.rv, c.gv, c.tv, c.ev, c.cv]) (hA : AllAt c gb w)
    (hret : ∀ (a' : Act) (W : World), a'.tmps.getD 2 undef = .bool false → a'.defers = [] → Below w.heap.size w W → ¬ (∀ (i : Nat) (r : Rl), (allRows c)[i]? = some r → (0 < i → r.flds.length ≤ 6) ∧ ∀ (m : Nat) (l : Loc), r.flds[m]? = some l → cellOk c.recs.length l = true) → Q .ret a' W)
    (hnext : ∀ (a' : Act) (W : World), a'.tmps.size = 324 → a'.tmps.getD 1 undef = .pointer (some ⟨bc, 0, none⟩) → a'.defers = [] → Below w.heap.size w W → (∀ (i : Nat) (r : Rl), (allRows c)[i]? = some r → (0 < i → r.flds.length ≤ 6) ∧ ∀ (m : Nat) (l : Loc), r.flds[m]? = some l → cellOk c.recs.length l = true) → Q .normal a' W) :
    (stm 3).wp Try.prog Q ⟨(g 0 :: .pointer (some ⟨bc, 0, none⟩) :: g 2 :: .slice (some ⟨gb, 0, none⟩) (c.recs.length + 1) cap :: g 4 :: g 5 :: g 6 :: g 7 :: g 8 :: g 9 :: g 10 :: g 11 :: g 12 :: g 13 :: g 14 :: g 15 :: g 16 :: g 17 :: g 18 :: g 19 :: g 20 :: g 21 :: g 22 :: g 23 :: g 24 :: g 25 :: g 26 :: g 27 :: g 28 :: g 29 :: g 30 :: g 31 :: g 32 :: g 33 :: g 34 :: g 35 :: g 36 :: g 37 :: g 38 :: g 39 :: g 40 :: g 41 :: g 42 :: g 43 :: g 44 :: g 45 :: g 46 :: g 47 :: g 48 :: g 49 :: g 50 :: g 51 :: g 52 :: g 53 :: g 54 :: g 55 :: g 56 :: g 57 :: g 58 :: g 59 :: g 60 :: g 61 :: g 62 :: g 63 :: g 64 :: g 65 :: g 66 :: g 67 :: g 68 :: g 69 :: g 70 :: g 71 :: g 72 :: g 73 :: g 74 :: g 75 :: g 76 :: g 77 :: g 78 :: g 79 :: g 80 :: g 81 :: g 82 :: g 83 :: g 84 :: g 85 :: g 86 :: g 87 :: g 88 :: g 89 :: g 90 :: g 91 :: g 92 :: g 93 :: g 94 :: g 95 :: g 96 :: g 97 :: g 98 :: g 99 :: g 100 :: g 101 :: g 102 :: g 103 :: g 104 :: g 105 :: g 106 :: g 107 :: g 108 :: g 109 :: g 110 :: g 111 :: g 112 :: g 113 :: g 114 :: g 115 :: g 116 :: g 117 :: g 118 :: g 119 :: g 120 :: g 121 :: g 122 :: g 123 :: g 124 :: g 125 :: g 126 :: g 127 :: g 128 :: g 129 :: g 130 :: g 131 :: g 132 :: g 133 :: g 134 :: g 135 :: g 136 :: g 137 :: g 138 :: g 139 :: g 140 :: g 141 :: g 142 :: g 143 :: g 144 :: g 145 :: g 146 :: g 147 :: g 148 :: g 149 :: g 150 :: g 151 :: g 152 :: g 153 :: g 154 :: g 155 :: g 156 :: g 157 :: g 158 :: g 159 :: g 160 :: g 161 :: g 162 :: g 163 :: g 164 :: g 165 :: g 166 :: g 167 :: g 168 :: g 169 :: g 170 :: g 171 :: g 172 :: g 173 :: g 174 :: g 175 :: g 176 :: g 177 :: g 178 :: g 179 :: g 180 :: g 181 :: g 182 :: g 183 :: g 184 :: g 185 :: g 186 :: g 187 :: g 188 :: g 189 :: g 190 :: g 191 :: g 192 :: g 193 :: g 194 :: g 195 :: g 196 :: g 197 :: g 198 :: g 199 :: g 200 :: g 201 :: g 202 :: g 203 :: g 204 :: g 205 :: g 206 :: g 207 :: g 208 :: g 209 :: g 210 :: g 211 :: g 212 :: g 213 :: g 214 :: g 215 :: g 216 :: g 217 :: g 218 :: g 219 :: g 220 :: g 221 :: g 222 :: g 223 :: g 224 :: g 225 :: g 226 :: g 227 :: g 228 :: g 229 :: g 230 :: g 231 :: g 232 :: g 233 :: g 234 :: g 235 :: g 236 :: g 237 :: g 238 :: g 239 :: g 240 :: g 241 :: g 242 :: g 243 :: g 244 :: g 245 :: g 246 :: g 247 :: g 248 :: g 249 :: g 250 :: g 251 :: g 252 :: g 253 :: g 254 :: g 255 :: g 256 :: g 257 :: g 258 :: g 259 :: g 260 :: g 261 :: g 262 :: g 263 :: g 264 :: g 265 :: g 266 :: g 267 :: g 268 :: g 269 :: g 270 :: g 271 :: g 272 :: g 273 :: g 274 :: g 275 :: g 276 :: g 277 :: g 278 :: g 279 :: g 280 :: g 281 :: g 282 :: g 283 :: g 284 :: g 285 :: g 286 :: g 287 :: g 288 :: g 289 :: g 290 :: g 291 :: g 292 :: g 293 :: g 294 :: g 295 :: g 296 :: g 297 :: g 298 :: g 299 :: g 300 :: g 301 :: g 302 :: g 303 :: g 304 :: g 305 :: g 306 :: g 307 :: g 308 :: g 309 :: g 310 :: g 311 :: g 312 :: g 313 :: g 314 :: g 315 :: g 316 :: g 317 :: g 318 :: g 319 :: g 320 :: g 321 :: g 322 :: g 323 :: []).toArray, []⟩ w := by
  obtain ⟨a0, p0, a1, p1, a2, p2, a3, p3, a4, p4, e0, e1, e2, e3, e4⟩ := cd_open hc
  have x0 : c.recs.length ≤ 1000 := hs.l1
  have HR : Hid (∀ j, j < c.recs.length + 1 → ∃ (r : Rl) (ar : Option Addr) (pr : Nat), (allRows c)[j]? = some r ∧ r.fv = .slice ar r.flds.length pr ∧ Locs w (.slice ar r.flds.length pr) r.flds ∧ r.flds.length ≤ 1000) := hid (fun j hj => by
    cases j with
    | zero => exact ⟨_, a1, p1, rfl, e1, by have h := hc.2.1; rw [e1] at h; exact h, hs.l2⟩
    | succ j =>
      have hjr : j < c.recs.length := by omega
      obtain ⟨r, hr⟩ : ∃ r, c.recs[j]? = some r := ⟨c.recs[j], by simp [hjr]⟩
      obtain ⟨_, _, _, _, _, _, hl⟩ := rl_cells hc.1 hr
      obtain ⟨ar, pr, er⟩ := hl.form
      exact ⟨r, ar, pr, by unfold allRows; simpa using hr, er, by rw [er] at hl; exact hl, hs.flds j r hr⟩)
  rw [e0, e1, e2, e3, e4] at KC
  clear e0 e1 e2 e3 e4 hc hs
  have lc := KC.1
  have lg := hA.1
  have B0 := hid (Below.refl w.heap.size w)
  replace KC := hid KC
  replace hA := hid hA
  replace hret := hid hret
  replace hnext := hid hnext
  have DL := hid (fun (l : Loc) W => rlocal_any a0 c.recs.length p0 (.slice a1 c.globs.length p1) (.slice a2 c.threads.length p2) (.slice a3 c.sites.length p3) (.slice a4 c.secs.length p4) l W)
  conv => arg 2; whnf
  go_wp2_with fail
  go_loopw [59] (fun t wr => ∃ j : Nat, t = .int .i64 j ∧ j ≤ c.recs.length + 1 ∧ Hid (∀ (i : Nat) (r : Rl), i < j → (allRows c)[i]? = some r → (0 < i → r.flds.length ≤ 6) ∧ ∀ (m : Nat) (l : Loc), r.flds[m]? = some l → cellOk c.recs.length l = true) ∧ Hid (Below w.heap.size w wr)) (fun t _ => c.recs.length + 1 - (intOf t).toNat)
  case atStart => exact ⟨0, rfl, by omega, hid (fun i x h => by omega), B0⟩
  case round =>
    clear B0
    obtain ⟨i, rfl, hi, E, B⟩ := hrel
    by_cases hin : i < c.recs.length + 1
    rotate_left
    · have R2 : Hid (∀ (i : Nat) (r : Rl), (allRows c)[i]? = some r → (0 < i → r.flds.length ≤ 6) ∧ ∀ (m : Nat) (l : Loc), r.flds[m]? = some l → cellOk c.recs.length l = true) := hid (fun i t ht => E.out i t (by have := (List.getElem?_eq_some_iff.1 ht).1; unfold allRows at this; simp only [List.length_cons] at this; omega) ht)
      clear E HR hA
      go_wp2_with fail
      exact hnext.out _ _ rfl rfl rfl B.out R2.out
    obtain ⟨r, ar, pr, hr, er, hL, hl1000⟩ := HR.out i hin
    have u0 := hA.out.2 i r hr
    rw [er] at u0
    rw [← B.out.cell lg] at u0
    replace hr := hid hr
    replace hL := hid hL
    have ini : (i : Int) < ((c.recs.length + 1 : Nat) : Int) := by omega
    have ini2 : (i : Int) < (c.recs.length : Int) + 1 := by omega
    clear er HR hA
    by_cases h0 : 0 < i
    · have h0' : (0 : Int) < (i : Int) := by omega
      by_cases h6 : r.flds.length ≤ 6
      rotate_left
      · have k := big h6
        have G : Hid (¬ (∀ (i : Nat) (r : Rl), (allRows c)[i]? = some r → (0 < i → r.flds.length ≤ 6) ∧ ∀ (m : Nat) (l : Loc), r.flds[m]? = some l → cellOk c.recs.length l = true)) := hid (fun h => h6 ((h i r hr.out).1 h0))
        clear E DL hL KC
        go_wp2_with fail
        exact hret.out _ _ rfl rfl B.out G.out
      have k := low h6
      have H6 : Hid (0 < i → r.flds.length ≤ 6) := hid (fun _ => h6)
      go_wp2_with fail
      clear u0
      go_loopw [73] (fun t wr' => ∃ k : Nat, t = .int .i64 k ∧ k ≤ r.flds.length ∧ Hid (∀ (m : Nat) (y : Loc), m < k → r.flds[m]? = some y → cellOk c.recs.length y = true) ∧ Hid (Below w.heap.size w wr')) (fun t _ => r.flds.length - (intOf t).toNat)
      case atStart => exact ⟨0, rfl, by omega, hid (fun i x h => by omega), B⟩
      case round =>
        clear B
        obtain ⟨k, rfl, hk, E3, B⟩ := hrel
        by_cases hkn : k < r.flds.length
        · obtain ⟨y, hy⟩ : ∃ y, r.flds[k]? = some y := ⟨r.flds[k], by simp [hkn]⟩
          obtain ⟨bs, os, cs, es, hbs, v0, v1, v2⟩ := loc_cells hL.out hy
          cases es
          rw [← B.out.cell hbs] at v0 v1 v2
          have KC2 := hid (KC.out.kept B.out)
          obtain ⟨c0, c1, c2, c3, c4⟩ := five0 KC2.out
          have lc2 : _ < _ := KC2.out.1
          clear KC2
          have DL2 := hid (DL.out y)
          have B4 := hid (B.out.alloc B.out.size (.cells #[.int .i64 y.kind, .int .i64 y.rc, .bool y.once] 42))
          replace hy := hid hy
          cases ho : y.once
          rotate_left
          · have G : Hid (¬ (∀ (i : Nat) (r : Rl), (allRows c)[i]? = some r → (0 < i → r.flds.length ≤ 6) ∧ ∀ (m : Nat) (l : Loc), r.flds[m]? = some l → cellOk c.recs.length l = true)) := hid (fun h => by have h2 := (h i r hr.out).2 k y hy.out; unfold cellOk at h2; rw [ho] at h2; cases h2)
            rw [ho] at v2 B4
            clear E E3 hL DL DL2
            go_wp2_with fail
            exact hret.out _ _ rfl rfl B4.out G.out
          rw [ho] at v2 B4 DL2
          cases hq : locOk c.recs.length y
          · have G : Hid (¬ (∀ (i : Nat) (r : Rl), (allRows c)[i]? = some r → (0 < i → r.flds.length ≤ 6) ∧ ∀ (m : Nat) (l : Loc), r.flds[m]? = some l → cellOk c.recs.length l = true)) := hid (fun h => by have h2 := (h i r hr.out).2 k y hy.out; unfold cellOk at h2; rw [hq] at h2; simp at h2)
            rw [hq] at DL2
            clear E E3 hq hL DL
            go_wp2_with (go_at_call 19; refine Calls.mono (DL2.out _) ?_; rintro e w3 ⟨rfl, hb3⟩)
            exact hret.out _ _ rfl rfl (bover B4.out hb3) G.out
          · have hq2 : Hid (cellOk c.recs.length y = true) := hid (by unfold cellOk; rw [ho, hq]; rfl)
            rw [hq] at DL2
            clear hL DL hq
            go_wp2_with (go_at_call 19; refine Calls.mono (DL2.out _) ?_; rintro e w3 ⟨rfl, hb3⟩)
            go_roundw
            case rel =>
              refine ⟨k + 1, by go_num, by omega, hid (fun m z hm hz => ?_), bover B4.out hb3⟩
              by_cases hmk : m < k
              · exact E3.out m z hmk hz
              · obtain rfl : m = k := by omega
                rw [hy.out] at hz
                cases hz
                exact hq2.out
            case measure => simp [intOf]; omega
        · have R3 : Hid (∀ (m : Nat) (y : Loc), r.flds[m]? = some y → cellOk c.recs.length y = true) := hid (fun m y hy => E3.out m y (by have := (List.getElem?_eq_some_iff.1 hy).1; omega) hy)
          clear E3 DL hL
          go_wp2_with fail
          go_roundw
          case rel =>
            refine ⟨i + 1, by go_num, by omega, hid (fun m z hm hz => ?_), B⟩
            by_cases hmk : m < i
            · exact E.out m z hmk hz
            · obtain rfl : m = i := by omega
              rw [hr.out] at hz
              cases hz
              exact ⟨H6.out, R3.out⟩
          case measure => simp [intOf]; omega
    · have h0' : (i : Int) ≤ 0 := by omega
      have H6 : Hid (0 < i → r.flds.length ≤ 6) := hid (fun h => by omega)
      go_wp2_with fail
      clear u0
      go_loopw [73] (fun t wr' => ∃ k : Nat, t = .int .i64 k ∧ k ≤ r.flds.length ∧ Hid (∀ (m : Nat) (y : Loc), m < k → r.flds[m]? = some y → cellOk c.recs.length y = true) ∧ Hid (Below w.heap.size w wr')) (fun t _ => r.flds.length - (intOf t).toNat)
      case atStart => exact ⟨0, rfl, by omega, hid (fun i x h => by omega), B⟩
      case round =>
        clear B
        obtain ⟨k, rfl, hk, E3, B⟩ := hrel
        by_cases hkn : k < r.flds.length
        · obtain ⟨y, hy⟩ : ∃ y, r.flds[k]? = some y := ⟨r.flds[k], by simp [hkn]⟩
          obtain ⟨bs, os, cs, es, hbs, v0, v1, v2⟩ := loc_cells hL.out hy
          cases es
          rw [← B.out.cell hbs] at v0 v1 v2
          have KC2 := hid (KC.out.kept B.out)
          obtain ⟨c0, c1, c2, c3, c4⟩ := five0 KC2.out
          have lc2 : _ < _ := KC2.out.1
          clear KC2
          have DL2 := hid (DL.out y)
          have B4 := hid (B.out.alloc B.out.size (.cells #[.int .i64 y.kind, .int .i64 y.rc, .bool y.once] 42))
          replace hy := hid hy
          cases ho : y.once
          rotate_left
          · have G : Hid (¬ (∀ (i : Nat) (r : Rl), (allRows c)[i]? = some r → (0 < i → r.flds.length ≤ 6) ∧ ∀ (m : Nat) (l : Loc), r.flds[m]? = some l → cellOk c.recs.length l = true)) := hid (fun h => by have h2 := (h i r hr.out).2 k y hy.out; unfold cellOk at h2; rw [ho] at h2; cases h2)
            rw [ho] at v2 B4
            clear E E3 hL DL DL2
            go_wp2_with fail
            exact hret.out _ _ rfl rfl B4.out G.out
          rw [ho] at v2 B4 DL2
          cases hq : locOk c.recs.length y
          · have G : Hid (¬ (∀ (i : Nat) (r : Rl), (allRows c)[i]? = some r → (0 < i → r.flds.length ≤ 6) ∧ ∀ (m : Nat) (l : Loc), r.flds[m]? = some l → cellOk c.recs.length l = true)) := hid (fun h => by have h2 := (h i r hr.out).2 k y hy.out; unfold cellOk at h2; rw [hq] at h2; simp at h2)
            rw [hq] at DL2
            clear E E3 hq hL DL
            go_wp2_with (go_at_call 19; refine Calls.mono (DL2.out _) ?_; rintro e w3 ⟨rfl, hb3⟩)
            exact hret.out _ _ rfl rfl (bover B4.out hb3) G.out
          · have hq2 : Hid (cellOk c.recs.length y = true) := hid (by unfold cellOk; rw [ho, hq]; rfl)
            rw [hq] at DL2
            clear hL DL hq
            go_wp2_with (go_at_call 19; refine Calls.mono (DL2.out _) ?_; rintro e w3 ⟨rfl, hb3⟩)
            go_roundw
            case rel =>
              refine ⟨k + 1, by go_num, by omega, hid (fun m z hm hz => ?_), bover B4.out hb3⟩
              by_cases hmk : m < k
              · exact E3.out m z hmk hz
              · obtain rfl : m = k := by omega
                rw [hy.out] at hz
                cases hz
                exact hq2.out
            case measure => simp [intOf]; omega
        · have R3 : Hid (∀ (m : Nat) (y : Loc), r.flds[m]? = some y → cellOk c.recs.length y = true) := hid (fun m y hy => E3.out m y (by have := (List.getElem?_eq_some_iff.1 hy).1; omega) hy)
          clear E3 DL hL
          go_wp2_with fail
          go_roundw
          case rel =>
            refine ⟨i + 1, by go_num, by omega, hid (fun m z hm hz => ?_), B⟩
            by_cases hmk : m < i
            · exact E.out m z hmk hz
            · obtain rfl : m = i := by omega
              rw [hr.out] at hz
              cases hz
              exact ⟨H6.out, R3.out⟩
          case measure => simp [intOf]; omega
end Go.Proofs.Ytjjfhjelkioehaa
