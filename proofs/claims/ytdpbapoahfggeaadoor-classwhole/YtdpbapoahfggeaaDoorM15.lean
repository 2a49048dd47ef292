/- RGx, Sx, Me -/
import Derived.Test.YtdpbapoahfggeaaDoorM12
import Derived.Test.YtdpbapoahfggeaaDoorM14
import Derived.Test.YtdpbapoahfggeaaDoorRsA
import Derived.Test.YtdpbapoahfggeaaDoorRsB
import Derived.Test.YtdpbapoahfggeaaDoorEmc
import Derived.Deep.QuietTactic
import Derived.BigQuiet
/- The document's Good: its last loop, over all instructions. -/
namespace Go.Proofs.YtdpbapoahfggeaaDoor
open Go.ChangeShapes Go.WideShapes Go.ChangeAt Go.RowKit
set_option linter.unusedVariables false
set_option linter.unusedSimpArgs false

set_option maxRecDepth 100000 in
set_option maxHeartbeats 4000000 in
theorem stm7_any {Q : Exit → Act → World → Prop} {g : Nat → Value} {bc : Nat} (c : Cd) (w : World) (hc : c.okW w) (hs : SmallP c) (KC : BoxAt w bc [c.rv, c.gv, c.tv, c.ev, c.cv])
    (hl : ∀ (i : Nat) (t : Bd), c.threads[i]? = some t → ∀ (j : Nat) (l : Loc), t.slots[j]? = some l → locOk c.recs.length l = true)
    (hret : ∀ (a' : Act) (W : World), a'.tmps.getD 2 undef = .bool false → a'.defers = [] → Below w.heap.size w W → ¬ (∀ (i : Nat) (t : Bd), c.threads[i]? = some t → ∀ (j : Nat) (x : Ins), t.code[j]? = some x → insOk c i t j x = true) → Q .ret a' W)
    (hnext : ∀ (a' : Act) (W : World), a'.tmps.size = 324 → a'.tmps.getD 1 undef = .pointer (some ⟨bc, 0, none⟩) → a'.defers = [] → Below w.heap.size w W → (∀ (i : Nat) (t : Bd), c.threads[i]? = some t → ∀ (j : Nat) (x : Ins), t.code[j]? = some x → insOk c i t j x = true) → Q .normal a' W) :
    ((((Tryd.f14.body.map spineC).getD [])[7]?).getD Code.skip).wp Tryd.prog Q ⟨(g 0 :: .pointer (some ⟨bc, 0, none⟩) :: g 2 :: g 3 :: g 4 :: g 5 :: g 6 :: g 7 :: g 8 :: g 9 :: g 10 :: g 11 :: g 12 :: g 13 :: g 14 :: g 15 :: g 16 :: g 17 :: g 18 :: g 19 :: g 20 :: g 21 :: g 22 :: g 23 :: g 24 :: g 25 :: g 26 :: g 27 :: g 28 :: g 29 :: g 30 :: g 31 :: g 32 :: g 33 :: g 34 :: g 35 :: g 36 :: g 37 :: g 38 :: g 39 :: g 40 :: g 41 :: g 42 :: g 43 :: g 44 :: g 45 :: g 46 :: g 47 :: g 48 :: g 49 :: g 50 :: g 51 :: g 52 :: g 53 :: g 54 :: g 55 :: g 56 :: g 57 :: g 58 :: g 59 :: g 60 :: g 61 :: g 62 :: g 63 :: g 64 :: g 65 :: g 66 :: g 67 :: g 68 :: g 69 :: g 70 :: g 71 :: g 72 :: g 73 :: g 74 :: g 75 :: g 76 :: g 77 :: g 78 :: g 79 :: g 80 :: g 81 :: g 82 :: g 83 :: g 84 :: g 85 :: g 86 :: g 87 :: g 88 :: g 89 :: g 90 :: g 91 :: g 92 :: g 93 :: g 94 :: g 95 :: g 96 :: g 97 :: g 98 :: g 99 :: g 100 :: g 101 :: g 102 :: g 103 :: g 104 :: g 105 :: g 106 :: g 107 :: g 108 :: g 109 :: g 110 :: g 111 :: g 112 :: g 113 :: g 114 :: g 115 :: g 116 :: g 117 :: g 118 :: g 119 :: g 120 :: g 121 :: g 122 :: g 123 :: g 124 :: g 125 :: g 126 :: g 127 :: g 128 :: g 129 :: g 130 :: g 131 :: g 132 :: g 133 :: g 134 :: g 135 :: g 136 :: g 137 :: g 138 :: g 139 :: g 140 :: g 141 :: g 142 :: g 143 :: g 144 :: g 145 :: g 146 :: g 147 :: g 148 :: g 149 :: g 150 :: g 151 :: g 152 :: g 153 :: g 154 :: g 155 :: g 156 :: g 157 :: g 158 :: g 159 :: g 160 :: g 161 :: g 162 :: g 163 :: g 164 :: g 165 :: g 166 :: g 167 :: g 168 :: g 169 :: g 170 :: g 171 :: g 172 :: g 173 :: g 174 :: g 175 :: g 176 :: g 177 :: g 178 :: g 179 :: g 180 :: g 181 :: g 182 :: g 183 :: g 184 :: g 185 :: g 186 :: g 187 :: g 188 :: g 189 :: g 190 :: g 191 :: g 192 :: g 193 :: g 194 :: g 195 :: g 196 :: g 197 :: g 198 :: g 199 :: g 200 :: g 201 :: g 202 :: g 203 :: g 204 :: g 205 :: g 206 :: g 207 :: g 208 :: g 209 :: g 210 :: g 211 :: g 212 :: g 213 :: g 214 :: g 215 :: g 216 :: g 217 :: g 218 :: g 219 :: g 220 :: g 221 :: g 222 :: g 223 :: g 224 :: g 225 :: g 226 :: g 227 :: g 228 :: g 229 :: g 230 :: g 231 :: g 232 :: g 233 :: g 234 :: g 235 :: g 236 :: g 237 :: g 238 :: g 239 :: g 240 :: g 241 :: g 242 :: g 243 :: g 244 :: g 245 :: g 246 :: g 247 :: g 248 :: g 249 :: g 250 :: g 251 :: g 252 :: g 253 :: g 254 :: g 255 :: g 256 :: g 257 :: g 258 :: g 259 :: g 260 :: g 261 :: g 262 :: g 263 :: g 264 :: g 265 :: g 266 :: g 267 :: g 268 :: g 269 :: g 270 :: g 271 :: g 272 :: g 273 :: g 274 :: g 275 :: g 276 :: g 277 :: g 278 :: g 279 :: g 280 :: g 281 :: g 282 :: g 283 :: g 284 :: g 285 :: g 286 :: g 287 :: g 288 :: g 289 :: g 290 :: g 291 :: g 292 :: g 293 :: g 294 :: g 295 :: g 296 :: g 297 :: g 298 :: g 299 :: g 300 :: g 301 :: g 302 :: g 303 :: g 304 :: g 305 :: g 306 :: g 307 :: g 308 :: g 309 :: g 310 :: g 311 :: g 312 :: g 313 :: g 314 :: g 315 :: g 316 :: g 317 :: g 318 :: g 319 :: g 320 :: g 321 :: g 322 :: g 323 :: []).toArray, []⟩ w := by
  obtain ⟨a0, p0, a1, p1, a2, p2, a3, p3, a4, p4, e0, e1, e2, e3, e4⟩ := cd_open hc
  obtain ⟨at', ct, et, hT⟩ := bd_cells hc.2.2.1
  rw [e2] at et; cases et
  have DR := hid (fun (i j : Nat) (t : Bd) (x : Ins) (ht : c.threads[i]? = some t) (hx : t.code[j]? = some x) W (h : Below w.heap.size w W) => rinstr_any c i j t x W (Cd.kept hc h) hs ht hx (hl i t ht))
  have hcode := hid hs.code
  rw [e0, e1, e2, e3, e4] at DR KC
  have q3 : c.threads.length ≤ 1000 := hs.l3
  clear e0 e1 e2 e3 e4 hc hs hl
  have lc := KC.1
  have B0 := hid (Below.refl w.heap.size w)
  replace KC := hid KC
  replace hT := hid hT
  replace hret := hid hret
  replace hnext := hid hnext
  conv => arg 2; whnf
  have c2 := KC.out.2 2 _ rfl
  go_wp2_with fail
  clear c2
  go_loopw [306] (fun t wr => ∃ j : Nat, t = .int .i64 j ∧ j ≤ c.threads.length ∧ Hid (∀ (i : Nat) (t : Bd), i < j → c.threads[i]? = some t → ∀ (m : Nat) (x : Ins), t.code[m]? = some x → insOk c i t m x = true) ∧ Hid (Below w.heap.size w wr)) (fun t _ => c.threads.length - (intOf t).toNat)
  case atStart => exact ⟨0, rfl, by omega, hid (fun i x h => by omega), B0⟩
  case round =>
    clear B0
    obtain ⟨i, rfl, hi, E, B⟩ := hrel
    by_cases hin : i < c.threads.length
    · obtain ⟨x, b, off, a5, p5, a6, p6, hx, ha, hb, e5, e6, u0, u1, u2, ok⟩ := hT.out i hin
      cases ha
      rw [← B.out.cell hb] at u0 u1 u2
      have qc := hcode.out i x hx
      have B2 := hid (B.out.alloc B.out.size (.cells #[.slice a5 x.slots.length p5, .slice a6 x.code.length p6, .int .i64 x.most] 55))
      replace hx := hid hx
      clear e5 e6 ok
      go_wp2_with fail
      clear u0 u1 u2
      go_loopw [314] (fun t wr' => ∃ k : Nat, t = .int .i64 k ∧ k ≤ x.code.length ∧ Hid (∀ (m : Nat) (y : Ins), m < k → x.code[m]? = some y → insOk c i x m y = true) ∧ Hid (Below w.heap.size w wr')) (fun t _ => x.code.length - (intOf t).toNat)
      case atStart => exact ⟨0, rfl, by omega, hid (fun i x h => by omega), B2⟩
      case round =>
        clear B B2
        obtain ⟨k, rfl, hk, E3, B⟩ := hrel
        by_cases hkn : k < x.code.length
        · obtain ⟨y, hy⟩ : ∃ y, x.code[k]? = some y := ⟨x.code[k], by simp [hkn]⟩
          have DI := hid (DR.out i k x y hx.out hy)
          have KC2 := hid (KC.out.kept B.out)
          obtain ⟨c0, c1, c2, c3, c4⟩ := five0 KC2.out
          clear KC2
          replace hy := hid hy
          cases hq : insOk c i x k y
          · have G : Hid (¬ (∀ (i : Nat) (t : Bd), c.threads[i]? = some t → ∀ (j : Nat) (x : Ins), t.code[j]? = some x → insOk c i t j x = true)) := hid (fun h => by rw [h i x hx.out k y hy.out] at hq; cases hq)
            rw [hq] at DI
            clear E E3 hq hT DR
            go_wp2_with (go_at_call 21; refine Calls.mono (DI.out _ B.out) ?_; rintro e w3 ⟨rfl, hb3⟩)
            exact hret.out _ _ rfl rfl (bover B.out hb3) G.out
          · rw [hq] at DI
            replace hq := hid hq
            clear hT DR
            go_wp2_with (go_at_call 21; refine Calls.mono (DI.out _ B.out) ?_; rintro e w3 ⟨rfl, hb3⟩)
            go_roundw
            case rel =>
              refine ⟨k + 1, by go_num, by omega, hid (fun m z hm hz => ?_), bover B.out hb3⟩
              by_cases hmk : m < k
              · exact E3.out m z hmk hz
              · obtain rfl : m = k := by omega
                rw [hy.out] at hz
                cases hz
                exact hq.out
            case measure => simp [intOf]; omega
        · have R3 : Hid (∀ (m : Nat) (y : Ins), x.code[m]? = some y → insOk c i x m y = true) := hid (fun m y hy => E3.out m y (by have := (List.getElem?_eq_some_iff.1 hy).1; omega) hy)
          clear E3 hT DR
          go_wp2_with fail
          go_roundw
          case rel =>
            refine ⟨i + 1, by go_num, by omega, hid (fun m z hm hz => ?_), B⟩
            by_cases hmk : m < i
            · exact E.out m z hmk hz
            · obtain rfl : m = i := by omega
              rw [hx.out] at hz
              cases hz
              exact R3.out
          case measure => simp [intOf]; omega
    · have R2 : Hid (∀ (i : Nat) (t : Bd), c.threads[i]? = some t → ∀ (j : Nat) (x : Ins), t.code[j]? = some x → insOk c i t j x = true) := hid (fun i t ht => E.out i t (by have := (List.getElem?_eq_some_iff.1 ht).1; omega) ht)
      clear E hT DR
      go_wp2_with fail
      exact hnext.out _ _ rfl rfl rfl B.out R2.out
end Go.Proofs.YtdpbapoahfggeaaDoor

/- The document's Good: the whole. -/
namespace Go.Proofs.YtdpbapoahfggeaaDoor
open Go.ChangeShapes Go.WideShapes Go.ChangeAt Go.RowKit
set_option linter.unusedVariables false
set_option linter.unusedSimpArgs false

theorem goodP_parts (c : Cd) : GoodP c ↔ ((c.recs.length ≤ 6 ∧ c.globs.length ≤ 8 ∧ c.threads.length ≤ 4 ∧ c.sites.length ≤ 32 ∧ c.secs.length ≤ 32) ∧ (∀ (i : Nat) (r : Rl), (allRows c)[i]? = some r → (0 < i → r.flds.length ≤ 6) ∧ ∀ (m : Nat) (l : Loc), r.flds[m]? = some l → cellOk c.recs.length l = true) ∧ (∀ (i : Nat) (t : Bd), c.threads[i]? = some t → (t.slots.length ≤ 64 ∧ 1 ≤ t.code.length ∧ t.code.length ≤ 256 ∧ 0 ≤ t.most ∧ t.most ≤ 4096) ∧ ∀ (j : Nat) (l : Loc), t.slots[j]? = some l → locOk c.recs.length l = true) ∧ (∀ (i : Nat) (s : Sec), c.secs[i]? = some s → secOk c i s ∧ ∀ (k : Nat) (o : Sec), k ≠ i → c.secs[k]? = some o → meetB s o = false) ∧ (∀ (i : Nat) (s : Ste), c.sites[i]? = some s → steOk c i s) ∧ (∀ (i : Nat) (t : Bd), c.threads[i]? = some t → ∀ (j : Nat) (x : Ins), t.code[j]? = some x → insOk c i t j x = true)) := by
  constructor
  · intro h
    refine ⟨⟨h.l1, h.l2, h.l3, h.l4, h.l5⟩, fun i r hr => ?_, fun i t ht => ⟨?_, h.slots i t ht⟩, secs_all.2 h.secs, h.sites, fun i t ht => (h.ths i t ht).2.2.2.2.2⟩
    · cases i with
      | zero =>
        have e : r = ⟨c.globs, c.gv⟩ := by unfold allRows at hr; simpa using hr.symm
        subst e
        exact ⟨fun q => absurd q (by omega), fun m l hm => h.cells1 m l hm⟩
      | succ i =>
        have hr2 : c.recs[i]? = some r := by unfold allRows at hr; simpa using hr
        exact ⟨fun _ => h.flds i r hr2, fun m l hm => h.cells2 i r hr2 m l hm⟩
    · obtain ⟨a, b, d, e, f, _⟩ := h.ths i t ht
      exact ⟨a, e, f, b, d⟩
  · rintro ⟨⟨l1, l2, l3, l4, l5⟩, h2, h3, h4, h5, h6⟩
    have hs : ∀ (i : Nat) (r : Rl), c.recs[i]? = some r → (allRows c)[i + 1]? = some r := fun i r hr => by unfold allRows; simpa using hr
    refine ⟨l1, l2, l3, l4, l5, fun i r hr => (h2 _ r (hs i r hr)).1 (by omega), fun i l hl => (h2 0 ⟨c.globs, c.gv⟩ rfl).2 i l hl, fun i r hr j l hl => (h2 _ r (hs i r hr)).2 j l hl, fun i t ht => (h3 i t ht).2, secs_all.1 h4, h5, fun i t ht => ?_⟩
    obtain ⟨a, b, d, e, f⟩ := (h3 i t ht).1
    exact ⟨a, e, f, b, d, h6 i t ht⟩

theorem step_any {P : Program} {C : Code} {Q : Exit → Act → World → Prop} {R : Act → World → Prop} {a : Act} {w : World} (h : ∀ a' W, R a' W → C.wp P Q a' W) (hp : R a w) : C.wp P Q a w := h a w hp
set_option maxRecDepth 100000 in
theorem fr_open3 (a' : Act) (bc gb n cap : Nat) (hs : a'.tmps.size = 324) (h1 : a'.tmps.getD 1 undef = .pointer (some ⟨bc, 0, none⟩)) (h3 : a'.tmps.getD 3 undef = .slice (some ⟨gb, 0, none⟩) n cap) (hd : a'.defers = []) :
    ∃ g : Nat → Value, a' = ⟨(g 0 :: .pointer (some ⟨bc, 0, none⟩) :: g 2 :: .slice (some ⟨gb, 0, none⟩) n cap :: g 4 :: g 5 :: g 6 :: g 7 :: g 8 :: g 9 :: g 10 :: g 11 :: g 12 :: g 13 :: g 14 :: g 15 :: g 16 :: g 17 :: g 18 :: g 19 :: g 20 :: g 21 :: g 22 :: g 23 :: g 24 :: g 25 :: g 26 :: g 27 :: g 28 :: g 29 :: g 30 :: g 31 :: g 32 :: g 33 :: g 34 :: g 35 :: g 36 :: g 37 :: g 38 :: g 39 :: g 40 :: g 41 :: g 42 :: g 43 :: g 44 :: g 45 :: g 46 :: g 47 :: g 48 :: g 49 :: g 50 :: g 51 :: g 52 :: g 53 :: g 54 :: g 55 :: g 56 :: g 57 :: g 58 :: g 59 :: g 60 :: g 61 :: g 62 :: g 63 :: g 64 :: g 65 :: g 66 :: g 67 :: g 68 :: g 69 :: g 70 :: g 71 :: g 72 :: g 73 :: g 74 :: g 75 :: g 76 :: g 77 :: g 78 :: g 79 :: g 80 :: g 81 :: g 82 :: g 83 :: g 84 :: g 85 :: g 86 :: g 87 :: g 88 :: g 89 :: g 90 :: g 91 :: g 92 :: g 93 :: g 94 :: g 95 :: g 96 :: g 97 :: g 98 :: g 99 :: g 100 :: g 101 :: g 102 :: g 103 :: g 104 :: g 105 :: g 106 :: g 107 :: g 108 :: g 109 :: g 110 :: g 111 :: g 112 :: g 113 :: g 114 :: g 115 :: g 116 :: g 117 :: g 118 :: g 119 :: g 120 :: g 121 :: g 122 :: g 123 :: g 124 :: g 125 :: g 126 :: g 127 :: g 128 :: g 129 :: g 130 :: g 131 :: g 132 :: g 133 :: g 134 :: g 135 :: g 136 :: g 137 :: g 138 :: g 139 :: g 140 :: g 141 :: g 142 :: g 143 :: g 144 :: g 145 :: g 146 :: g 147 :: g 148 :: g 149 :: g 150 :: g 151 :: g 152 :: g 153 :: g 154 :: g 155 :: g 156 :: g 157 :: g 158 :: g 159 :: g 160 :: g 161 :: g 162 :: g 163 :: g 164 :: g 165 :: g 166 :: g 167 :: g 168 :: g 169 :: g 170 :: g 171 :: g 172 :: g 173 :: g 174 :: g 175 :: g 176 :: g 177 :: g 178 :: g 179 :: g 180 :: g 181 :: g 182 :: g 183 :: g 184 :: g 185 :: g 186 :: g 187 :: g 188 :: g 189 :: g 190 :: g 191 :: g 192 :: g 193 :: g 194 :: g 195 :: g 196 :: g 197 :: g 198 :: g 199 :: g 200 :: g 201 :: g 202 :: g 203 :: g 204 :: g 205 :: g 206 :: g 207 :: g 208 :: g 209 :: g 210 :: g 211 :: g 212 :: g 213 :: g 214 :: g 215 :: g 216 :: g 217 :: g 218 :: g 219 :: g 220 :: g 221 :: g 222 :: g 223 :: g 224 :: g 225 :: g 226 :: g 227 :: g 228 :: g 229 :: g 230 :: g 231 :: g 232 :: g 233 :: g 234 :: g 235 :: g 236 :: g 237 :: g 238 :: g 239 :: g 240 :: g 241 :: g 242 :: g 243 :: g 244 :: g 245 :: g 246 :: g 247 :: g 248 :: g 249 :: g 250 :: g 251 :: g 252 :: g 253 :: g 254 :: g 255 :: g 256 :: g 257 :: g 258 :: g 259 :: g 260 :: g 261 :: g 262 :: g 263 :: g 264 :: g 265 :: g 266 :: g 267 :: g 268 :: g 269 :: g 270 :: g 271 :: g 272 :: g 273 :: g 274 :: g 275 :: g 276 :: g 277 :: g 278 :: g 279 :: g 280 :: g 281 :: g 282 :: g 283 :: g 284 :: g 285 :: g 286 :: g 287 :: g 288 :: g 289 :: g 290 :: g 291 :: g 292 :: g 293 :: g 294 :: g 295 :: g 296 :: g 297 :: g 298 :: g 299 :: g 300 :: g 301 :: g 302 :: g 303 :: g 304 :: g 305 :: g 306 :: g 307 :: g 308 :: g 309 :: g 310 :: g 311 :: g 312 :: g 313 :: g 314 :: g 315 :: g 316 :: g 317 :: g 318 :: g 319 :: g 320 :: g 321 :: g 322 :: g 323 :: []).toArray, []⟩ := by
  refine ⟨fun k => a'.tmps.getD k undef, ?_⟩
  obtain ⟨t, d⟩ := a'
  simp only at *
  subst hd
  rw [← h1, ← h3]
  have e := fr_of t hs
  congr 1

set_option maxRecDepth 100000 in
set_option maxHeartbeats 4000000 in
theorem rgood_says : RGoodSays := by
  intro c w hc hs
  have GP := hid (goodP_parts c)
  have KC0 := BoxAt.new w #[c.rv, c.gv, c.tv, c.ev, c.cv] 41
  have B0 := (Below.refl w.heap.size w).alloc (Nat.le_refl _) (.cells #[c.rv, c.gv, c.tv, c.ev, c.cv] 41)
  have NO : Hid (∀ (a' : Act) (W : World), a'.tmps.getD 2 undef = .bool false → a'.defers = [] → Below w.heap.size w W → ¬ GoodP c → bodyPost Tryd.prog Tryd.f14 (Ans (GoodP c) w) .ret a' W) := hid (fun a' W h1 h2 h3 h4 =>
    bodyPost_ret (results_tmp (by rfl) _ _ _) h2 (by rw [h1]; exact exNo h4 h3))
  obtain ⟨a0, p0, a1, p1, a2, p2, a3, p3, a4, p4, e0, e1, e2, e3, e4⟩ := cd_open hc
  have KE : Hid (∀ W, BoxAt W w.heap.size [.slice a0 c.recs.length p0, .slice a1 c.globs.length p1, .slice a2 c.threads.length p2, .slice a3 c.sites.length p3, .slice a4 c.secs.length p4] → BoxAt W w.heap.size [c.rv, c.gv, c.tv, c.ev, c.cv]) := hid (fun W h => by rw [e0, e1, e2, e3, e4]; exact h)
  rw [e0, e1, e2, e3, e4] at B0 KC0 ⊢
  clear e0 e1 e2 e3 e4
  replace B0 := hid B0
  replace KC0 := hid KC0
  replace hc := hid hc
  replace hs := hid hs
  go_enter Tryd.func14, Tryd.ntmps14
  refine wp_seq_k (fun K hK => ?_)
  replace hK := hid hK
  go_wp2_with fail
  refine hK.out _ _ ?_
  clear hK K
  refine step_any (R := fun a' W => a'.tmps.size = 324 ∧ a'.tmps.getD 1 undef = .pointer (some ⟨w.heap.size, 0, none⟩) ∧ a'.defers = [] ∧ Below w.heap.size w W ∧ BoxAt W w.heap.size [.slice a0 c.recs.length p0, .slice a1 c.globs.length p1, .slice a2 c.threads.length p2, .slice a3 c.sites.length p3, .slice a4 c.secs.length p4]) (fun a' W hP => ?_) ⟨rfl, rfl, rfl, B0.out, KC0.out⟩
  obtain ⟨h1, h2, h3, BW, KW⟩ := hP
  clear B0 KC0
  replace KW := KE.out _ KW
  clear KE
  obtain ⟨g, rfl⟩ := fr_open a' _ h1 h2 h3
  clear h1 h2 h3
  refine wp_seq ?_
  refine stm1_any c W (Cd.kept hc.out BW) KW (fun a' W' h1 h2 hb hn => NO.out a' W' h1 h2 (bover BW hb) (fun q => hn (GP.out.1 q).1)) ?_
  intro a' W1 h1 h2 h3 hb q1
  show Code.wp Tryd.prog _ _ a' W1
  replace KW := KW.kept hb
  replace BW := bover BW hb
  obtain ⟨g, rfl⟩ := fr_open a' _ h1 h2 h3
  clear h1 h2 h3 hb
  refine wp_seq ?_
  refine stm2_any c W1 (Cd.kept hc.out BW) hs.out KW ?_
  intro a' W2 gb cap h1 h2 h3 h4 hb hA
  show Code.wp Tryd.prog _ _ a' W2
  replace KW := KW.kept hb
  replace BW := bover BW hb
  obtain ⟨g, rfl⟩ := fr_open3 a' _ _ _ _ h1 h2 h3 h4
  clear h1 h2 h3 h4 hb
  refine wp_seq ?_
  refine stm3_any c W2 (Cd.kept hc.out BW) hs.out KW hA (fun a' W' h1 h2 hb hn => NO.out a' W' h1 h2 (bover BW hb) (fun q => hn (GP.out.1 q).2.1)) ?_
  intro a' W3 h1 h2 h3 hb q2
  show Code.wp Tryd.prog _ _ a' W3
  replace KW := KW.kept hb
  replace BW := bover BW hb
  obtain ⟨g, rfl⟩ := fr_open a' _ h1 h2 h3
  clear h1 h2 h3 hb hA
  refine wp_seq ?_
  refine stm4_any c W3 (Cd.kept hc.out BW) hs.out KW (fun a' W' h1 h2 hb hn => NO.out a' W' h1 h2 (bover BW hb) (fun q => hn (GP.out.1 q).2.2.1)) ?_
  intro a' W4 h1 h2 h3 hb q3
  show Code.wp Tryd.prog _ _ a' W4
  replace KW := KW.kept hb
  replace BW := bover BW hb
  obtain ⟨g, rfl⟩ := fr_open a' _ h1 h2 h3
  clear h1 h2 h3 hb
  refine wp_seq ?_
  refine stm5_any c W4 (Cd.kept hc.out BW) hs.out KW (fun a' W' h1 h2 hb hn => NO.out a' W' h1 h2 (bover BW hb) (fun q => hn (GP.out.1 q).2.2.2.1)) ?_
  intro a' W5 h1 h2 h3 hb q4
  show Code.wp Tryd.prog _ _ a' W5
  replace KW := KW.kept hb
  replace BW := bover BW hb
  obtain ⟨g, rfl⟩ := fr_open a' _ h1 h2 h3
  clear h1 h2 h3 hb
  refine wp_seq ?_
  refine stm6_any c W5 (Cd.kept hc.out BW) hs.out KW (fun a' W' h1 h2 hb hn => NO.out a' W' h1 h2 (bover BW hb) (fun q => hn (GP.out.1 q).2.2.2.2.1)) ?_
  intro a' W6 h1 h2 h3 hb q5
  show Code.wp Tryd.prog _ _ a' W6
  replace KW := KW.kept hb
  replace BW := bover BW hb
  obtain ⟨g, rfl⟩ := fr_open a' _ h1 h2 h3
  clear h1 h2 h3 hb
  refine wp_seq ?_
  refine stm7_any c W6 (Cd.kept hc.out BW) hs.out KW (fun i t ht => (q3 i t ht).2) (fun a' W' h1 h2 hb hn => NO.out a' W' h1 h2 (bover BW hb) (fun q => hn (GP.out.1 q).2.2.2.2.2)) ?_
  intro a' W7 h1 h2 h3 hb q6
  show Code.wp Tryd.prog _ _ a' W7
  replace BW := hid (bover BW hb)
  have YES := hid (GP.out.2 ⟨q1, q2, q3, q4, q5, q6⟩)
  obtain ⟨g, rfl⟩ := fr_open a' _ h1 h2 h3
  clear h1 h2 h3 hb KW q1 q2 q3 q4 q5 q6 NO GP hs hc
  go_wp2_with fail
  go_ret
  exact exYes YES.out BW.out
end Go.Proofs.YtdpbapoahfggeaaDoor
/- Sets in memory; the contracts of bring and meant. -/
namespace Go.Proofs.YtdpbapoahfggeaaDoor
open Go.ChangeShapes Go.WideShapes Go.ChangeAt Go.RowKit
set_option linter.unusedVariables false
set_option linter.unusedSimpArgs false

/-- A row of sets: if it has any, in a block of its own. -/
def RowM (w : World) (v : Value) (b : Nat) (l : List Nat) : Prop :=
  ∃ a c, v = .slice a l.length c ∧ (l ≠ [] → a = some ⟨b, 0, none⟩ ∧ VarAt w b (cellsN l) 23)
/-- A row of rows. -/
def OutM (w : World) (base top : Nat) (v : Value) (n : Nat) (f : Nat → Value) (Bd : Nat → Prop) : Prop :=
  ∃ a cap, v = .slice a n cap ∧ ∀ i, i < n → ∃ b off, a = some ⟨b, off, none⟩ ∧ base ≤ b ∧ b < top ∧ b < w.heap.size ∧ ¬ Bd b ∧ w.cell? ⟨b, off + i, none⟩ = some (f i)
/-- The blocks in which sets lie. -/
def InR (R : List (List Nat)) (B : Nat → Nat) (b : Nat) : Prop := ∃ r, R.getD r [] ≠ [] ∧ b = B r
/-- Sets in memory. -/
structure SetsM (w : World) (base top nT nS : Nat) (v0 v1 v2 : Value) (R : List (List Nat)) (V : Nat → Value) (B : Nat → Nat) : Prop where
  len : R.length = nT + 1 + nS
  row : ∀ r l, R[r]? = some l → RowM w (V r) (B r) l
  one : v1 = V nT
  o0 : OutM w base top v0 nT V (InR R B)
  o2 : OutM w base top v2 nS (fun k => V (nT + 1 + k)) (InR R B)
  sep : ∀ r r', R.getD r [] ≠ [] → R.getD r' [] ≠ [] → B r = B r' → r = r'
  lo : ∀ r, R.getD r [] ≠ [] → base ≤ B r ∧ B r < top

theorem RowM.touch {T : Nat → Prop} {w w' : World} {v : Value} {b : Nat} {l : List Nat} (h : RowM w v b l) (k : Touch T w w') (hb : l ≠ [] → ¬ T b) : RowM w' v b l := by
  obtain ⟨a, c, e, h⟩ := h
  exact ⟨a, c, e, fun q => ⟨(h q).1, (h q).2.touch k (hb q)⟩⟩
theorem OutM.touch {T : Nat → Prop} {w w' : World} {base top : Nat} {v : Value} {n : Nat} {f : Nat → Value} {Bd Bd' : Nat → Prop} (h : OutM w base top v n f Bd) (k : Touch T w w') (hB : ∀ b, Bd' b → Bd b) (hT : ∀ b, base ≤ b → b < top → ¬ Bd b → ¬ T b) : OutM w' base top v n f Bd' := by
  obtain ⟨a, c, e, h⟩ := h
  refine ⟨a, c, e, fun i hi => ?_⟩
  obtain ⟨b, off, h1, h2, h3, h4, h5, h6⟩ := h i hi
  exact ⟨b, off, h1, h2, h3, Nat.lt_of_lt_of_le h4 k.size, fun q => h5 (hB b q), by rw [World.cell?_of_block (k.block b h4 (hT b h2 h3 h5))]; exact h6⟩
theorem getD_mem' {α : Type} {l : List α} {i : Nat} {x d : α} (h : l[i]? = some x) : l.getD i d = x := by simp [List.getD, h]
theorem SetsM.touch {T : Nat → Prop} {w w' : World} {base top nT nS : Nat} {v0 v1 v2 : Value} {R : List (List Nat)} {V : Nat → Value} {B : Nat → Nat} (h : SetsM w base top nT nS v0 v1 v2 R V B) (k : Touch T w w') (hT : ∀ b, base ≤ b → b < top → ¬ T b) : SetsM w' base top nT nS v0 v1 v2 R V B :=
  ⟨h.len, fun r l hr => (h.row r l hr).touch k (fun q => by
    have := h.lo r (by rw [getD_mem' hr]; exact q)
    exact hT _ this.1 this.2), h.one, h.o0.touch k (fun _ q => q) (fun b h1 h2 _ => hT b h1 h2), h.o2.touch k (fun _ q => q) (fun b h1 h2 _ => hT b h1 h2), h.sep, h.lo⟩
theorem SetsM.kept {w w' : World} {base top nT nS : Nat} {v0 v1 v2 : Value} {R : List (List Nat)} {V : Nat → Value} {B : Nat → Nat} (h : SetsM w base top nT nS v0 v1 v2 R V B) (k : Below w.heap.size w w') : SetsM w' base top nT nS v0 v1 v2 R V B :=
  h.touch (T := fun _ => False) (Touch.of_below k) (fun _ _ _ q => q)

theorem set_none (R : List (List Nat)) (r j v r' : Nat) : (setR R r j v).getD r' [] ≠ [] ↔ R.getD r' [] ≠ [] := by
  have := row_set_len R r j v r'
  rw [← List.length_pos_iff, ← List.length_pos_iff, this]
/-- One set put anew. -/
theorem SetsM.set {w w' : World} {base top nT nS : Nat} {v0 v1 v2 : Value} {R : List (List Nat)} {V : Nat → Value} {B : Nat → Nat} (h : SetsM w base top nT nS v0 v1 v2 R V B) (r j v : Nat) (hj : j < (R.getD r []).length)
    {T : Nat → Prop} (k : Touch T w w') (hT : ∀ b, base ≤ b → b < top → b ≠ B r → ¬ T b) (hv : VarAt w' (B r) (cellsN ((R.getD r []).set j v)) 23) : SetsM w' base top nT nS v0 v1 v2 (setR R r j v) V B := by
  have hne : R.getD r [] ≠ [] := fun q => by rw [q] at hj; simp at hj
  have hi : ∀ b, InR (setR R r j v) B b → InR R B b := fun b ⟨x, hx, e⟩ => ⟨x, (set_none R r j v x).1 hx, e⟩
  have hn : ∀ b, ¬ InR R B b → b ≠ B r := fun b q e => q ⟨r, hne, e⟩
  refine ⟨by rw [← h.len]; unfold setR; simp, fun r' l hr => ?_, h.one, h.o0.touch k hi (fun b h1 h2 h3 => hT b h1 h2 (hn b h3)), h.o2.touch k hi (fun b h1 h2 h3 => hT b h1 h2 (hn b h3)),
    fun a b ha hb => h.sep a b ((set_none R r j v a).1 ha) ((set_none R r j v b).1 hb), fun a ha => h.lo a ((set_none R r j v a).1 ha)⟩
  unfold setR at hr
  rw [List.getElem?_set] at hr
  by_cases e : r = r'
  · subst e
    rw [if_pos rfl] at hr
    split at hr
    · cases hr
      rename_i hlt
      obtain ⟨a, c, e1, e2⟩ := h.row r R[r] (by simp [hlt])
      have eR : R.getD r [] = R[r] := getD_mem' (by simp [hlt])
      rw [eR] at hv hne ⊢
      exact ⟨a, c, by rw [List.length_set]; exact e1, fun _ => ⟨(e2 hne).1, hv⟩⟩
    · cases hr
  · rw [if_neg e] at hr
    refine (h.row r' l hr).touch k (fun q => ?_)
    have q' : R.getD r' [] ≠ [] := by rw [getD_mem' hr]; exact q
    have := h.lo r' q'
    exact hT _ this.1 this.2 (fun x => e (h.sep r r' hne q' x.symm))

/-- A row's set, as a cell. -/
theorem SetsM.at {w : World} {base top nT nS : Nat} {v0 v1 v2 : Value} {R : List (List Nat)} {V : Nat → Value} {B : Nat → Nat} (h : SetsM w base top nT nS v0 v1 v2 R V B) {r j : Nat} (hj : j < (R.getD r []).length) :
    ∃ c, V r = .slice (some ⟨B r, 0, none⟩) (R.getD r []).length c ∧ VarAt w (B r) (cellsN (R.getD r [])) 23 ∧ base ≤ B r ∧ B r < top ∧ w.cell? ⟨B r, j, none⟩ = some (.int .u64 ((gR R r j : Nat) : Int)) := by
  have hne : R.getD r [] ≠ [] := fun q => by rw [q] at hj; simp at hj
  have hr : r < R.length := by
    by_cases q : r < R.length
    · exact q
    · simp [List.getD, List.getElem?_eq_none (Nat.le_of_not_lt q)] at hj
  have eR : R.getD r [] = R[r] := getD_mem' (by simp [hr])
  obtain ⟨a, c, e1, e2⟩ := h.row r R[r] (by simp [hr])
  rw [← eR] at e1 e2
  obtain ⟨ea, hv⟩ := e2 hne
  exact ⟨c, by rw [e1, ea], hv, (h.lo r hne).1, (h.lo r hne).2, hv.cell j (cellsN_at hj)⟩
theorem SetsM.form {w : World} {base top nT nS : Nat} {v0 v1 v2 : Value} {R : List (List Nat)} {V : Nat → Value} {B : Nat → Nat} (h : SetsM w base top nT nS v0 v1 v2 R V B) {r : Nat} (hr : r < R.length) : ∃ a c, V r = .slice a (R.getD r []).length c := by
  obtain ⟨a, c, e1, e2⟩ := h.row r R[r] (by simp [hr])
  have eR : R.getD r [] = R[r] := getD_mem' (by simp [hr])
  rw [← eR] at e1
  exact ⟨a, c, e1⟩

theorem or64 {a b : Nat} (ha : a < 2 ^ 64) (hb : b < 2 ^ 64) : bits .or .u64 (a : Int) (b : Int) = ((a ||| b : Nat) : Int) := u64_or_nat a b (by rw [← p64]; exact ha) (by rw [← p64]; exact hb)

theorem neqN (z u : Nat) : ((z : Int) != (u : Int)) = decide (z ≠ u) := by
  by_cases h : z = u
  · simp [h]
  · have : ¬ ((z : Int) = (u : Int)) := by omega
    simp [h, this]

set_option maxRecDepth 100000 in
set_option maxHeartbeats 1000000 in
theorem bring_any (sb b j m : Nat) (l : List Nat) (x0 x1 x2 x3 x4 v0 v1 v2 : Value) (g : Bool) (W : World) (hs : VarAt W sb [x0, x1, x2, x3, x4, v0, v1, v2, .bool g] 69) (hv : VarAt W b (cellsN l) 23) (hj : j < l.length) (hne : sb ≠ b) (hm : m < 2 ^ 64) (hl : l.getD j 0 < 2 ^ 64) :
    Calls Tryd.prog 40 #[.pointer (some ⟨sb, 0, none⟩), .int .u64 (m : Int), .pointer (some ⟨b, j, none⟩)] W fun e W' => e = .returned (.tuple #[]) ∧
      VarAt W' sb [x0, x1, x2, x3, x4, v0, v1, v2, .bool (g || decide (l.getD j 0 ||| m ≠ l.getD j 0))] 69 ∧ VarAt W' b (cellsN (l.set j (l.getD j 0 ||| m))) 23 ∧ Touch (fun i => i = sb ∨ i = b) W W' := by
  have c8 := hs.cell 8 (v := .bool g) rfl
  have d8 := hs.frozen 8
  have cj := hv.cell j (cellsN_at hj)
  have dj := hv.frozen j
  have e1 := or64 hl hm
  have e2 : ∀ q : Bool, q = (g || decide (l.getD j 0 ||| m ≠ l.getD j 0)) → (VarAt ((W.setCell ⟨b, j, none⟩ (.int .u64 ((l.getD j 0 ||| m : Nat) : Int))).setCell ⟨sb, 8, none⟩ (.bool q)) sb [x0, x1, x2, x3, x4, v0, v1, v2, .bool (g || decide (l.getD j 0 ||| m ≠ l.getD j 0))] 69 ∧
      VarAt ((W.setCell ⟨b, j, none⟩ (.int .u64 ((l.getD j 0 ||| m : Nat) : Int))).setCell ⟨sb, 8, none⟩ (.bool q)) b (cellsN (l.set j (l.getD j 0 ||| m))) 23 ∧ Touch (fun i => i = sb ∨ i = b) W ((W.setCell ⟨b, j, none⟩ (.int .u64 ((l.getD j 0 ||| m : Nat) : Int))).setCell ⟨sb, 8, none⟩ (.bool q))) := fun q hq => by
    have t1 : Touch (fun i => i = b) W (W.setCell ⟨b, j, none⟩ (.int .u64 ((l.getD j 0 ||| m : Nat) : Int))) := Touch.setCell _ _ _ rfl
    have t2 : Touch (fun i => i = sb) (W.setCell ⟨b, j, none⟩ (.int .u64 ((l.getD j 0 ||| m : Nat) : Int))) ((W.setCell ⟨b, j, none⟩ (.int .u64 ((l.getD j 0 ||| m : Nat) : Int))).setCell ⟨sb, 8, none⟩ (.bool q)) := Touch.setCell _ _ _ rfl
    refine ⟨?_, ?_, (t1.mono (fun _ _ h => .inr h)).trans (t2.mono (fun _ _ h => .inl h))⟩
    · rw [← hq]
      exact (hs.touch t1 hne).set 8 (.bool q)
    · refine VarAt.touch ?_ t2 (fun e => hne e.symm)
      have := hv.set j (.int .u64 ((l.getD j 0 ||| m : Nat) : Int))
      rwa [cellsN_set] at this
  generalize l.getD j 0 = u at *
  generalize hz : u ||| m = z at *
  replace hz := hid hz
  replace e2 := hid e2
  clear hs hv hm hl hj
  have nq := hid (neqN z u)
  cases g
  · go_enter Tryd.func40, Tryd.ntmps40
    go_wp2_with fail
    go_end0
    exact ⟨rfl, e2.out _ (by rw [nq.out]; simp)⟩
  · go_enter Tryd.func40, Tryd.ntmps40
    go_wp2_with fail
    go_end0
    exact ⟨rfl, e2.out _ (by simp)⟩
end Go.Proofs.YtdpbapoahfggeaaDoor
/- Steps; the contract of meant. -/
namespace Go.Proofs.YtdpbapoahfggeaaDoor
open Go.ChangeShapes Go.WideShapes Go.ChangeAt Go.RowKit
set_option linter.unusedVariables false
set_option linter.unusedSimpArgs false

/-- A row of slots' numbers, above a block. -/
def NumsM (w : World) (lo hi : Nat) (v : Value) (l : List Nat) : Prop :=
  ∃ a c, v = .slice a l.length c ∧ ∀ q, q < l.length → ∃ b, a = some ⟨b, 0, none⟩ ∧ lo ≤ b ∧ b < hi ∧ b < w.heap.size ∧ w.cell? ⟨b, q, none⟩ = some (.int .i64 ((l.getD q 0 : Nat) : Int))
theorem NumsM.touch {T : Nat → Prop} {w w' : World} {lo hi : Nat} {v : Value} {l : List Nat} (h : NumsM w lo hi v l) (k : Touch T w w') (hT : ∀ b, lo ≤ b → b < hi → ¬ T b) : NumsM w' lo hi v l := by
  obtain ⟨a, c, e, h⟩ := h
  refine ⟨a, c, e, fun q hq => ?_⟩
  obtain ⟨b, h1, h2, h2', h3, h4⟩ := h q hq
  exact ⟨b, h1, h2, h2', Nat.lt_of_lt_of_le h3 k.size, by rw [World.cell?_of_block (k.block b h3 (hT b h2 h2'))]; exact h4⟩
theorem NumsM.kept {w w' : World} {lo hi : Nat} {v : Value} {l : List Nat} (h : NumsM w lo hi v l) (k : Below w.heap.size w w') : NumsM w' lo hi v l :=
  h.touch (T := fun _ => False) (Touch.of_below k) (fun _ _ _ q => q)
theorem NumsM.mono {w : World} {lo hi hi' : Nat} {v : Value} {l : List Nat} (h : NumsM w lo hi v l) (hh : hi ≤ hi') : NumsM w lo hi' v l := by
  obtain ⟨a, c, e, h⟩ := h
  refine ⟨a, c, e, fun q hq => ?_⟩
  obtain ⟨b, h1, h2, h2', h3, h4⟩ := h q hq
  exact ⟨b, h1, h2, by omega, h3, h4⟩

/-- A step: an instruction, its thread, the slots that its items name. -/
structure Stp where
  x : Ins
  i : Nat
  l : List Nat
  v : Value
def Stp.cells (s : Stp) : List Value := [.int .i64 s.x.op, .int .i64 s.x.dst, .int .i64 s.x.src, .int .i64 s.x.rc, .int .i64 s.x.n, .int .i64 s.x.to, s.x.iv, s.x.xv, .int .i64 (s.i : Int), s.v]

/-- The solver's box, and the sets. -/
structure Sol (W : World) (sb base top : Nat) (c : Cd) (v0 v1 v2 : Value) (g : Bool) (R : List (List Nat)) (V : Nat → Value) (B : Nat → Nat) : Prop where
  box : VarAt W sb [c.rv, c.gv, c.tv, c.ev, c.cv, v0, v1, v2, .bool g] 69
  sets : SetsM W base top c.threads.length c.sites.length v0 v1 v2 R V B
  above : (top ≤ sb ∨ sb < base) ∧ top ≤ W.heap.size
theorem Sol.touch {T : Nat → Prop} {W W' : World} {sb base top : Nat} {c : Cd} {v0 v1 v2 : Value} {g : Bool} {R : List (List Nat)} {V : Nat → Value} {B : Nat → Nat} (h : Sol W sb base top c v0 v1 v2 g R V B) (k : Touch T W W') (h1 : ∀ b, base ≤ b → b < top → ¬ T b) (h2 : ¬ T sb) : Sol W' sb base top c v0 v1 v2 g R V B :=
  ⟨h.box.touch k h2, h.sets.touch k h1, h.above.1, Nat.le_trans h.above.2 k.size⟩
theorem Sol.kept {W W' : World} {sb base top : Nat} {c : Cd} {v0 v1 v2 : Value} {g : Bool} {R : List (List Nat)} {V : Nat → Value} {B : Nat → Nat} (h : Sol W sb base top c v0 v1 v2 g R V B) (k : Below W.heap.size W W') : Sol W' sb base top c v0 v1 v2 g R V B :=
  h.touch (T := fun _ => False) (Touch.of_below k) (fun _ _ _ q => q) (fun q => q)

theorem take_snoc {α : Type} (l : List α) (j : Nat) (d : α) (h : j < l.length) : l.take (j + 1) = l.take j ++ [l.getD j d] := by
  rw [List.take_add_one, List.getElem?_eq_getElem h]
  simp [List.getD, h]

set_option maxRecDepth 100000 in
set_option maxHeartbeats 1000000 in
theorem meant_any (sb base top lo hi : Nat) (c : Cd) (v0 v1 v2 : Value) (g : Bool) (R : List (List Nat)) (V : Nat → Value) (B : Nat → Nat) (s : Stp) (W : World) (h : Sol W sb base top c v0 v1 v2 g R V B) (hU : AllU R)
    (hti : s.i < c.threads.length) (hn : NumsM W lo hi s.v s.l) (hl : ∀ q ∈ s.l, q < (R.getD s.i []).length) (hlen : s.l.length ≤ 1000) :
    Calls Tryd.prog 41 #[.pointer (some ⟨sb, 0, none⟩), .agg s.cells.toArray] W fun e W' => e = .returned (.int .u64 ((meant R s.i s.l : Nat) : Int)) ∧ Below W.heap.size W W' := by
  obtain ⟨x, i, l, v⟩ := s
  simp only at *
  obtain ⟨na, nc, rfl, hnn⟩ := hn
  have c5 := h.box.cell 5 (v := v0) rfl
  obtain ⟨oa, oc, e0, ho⟩ := h.sets.o0
  obtain ⟨ob, ooff, e1, o2, o3, o4, o5, o6⟩ := ho i hti
  subst e1
  have hsb := h.box.lt
  generalize hm : l.length = m at *
  have A : Hid (∀ q, q < m → ∃ nb s : Nat, na = some ⟨nb, 0, none⟩ ∧ l.getD q 0 = s ∧ nb < W.heap.size ∧ W.cell? ⟨nb, q, none⟩ = some (.int .i64 (s : Int)) ∧ s < (R.getD i []).length ∧ ∃ p cp, V i = .slice (some ⟨B i, 0, none⟩) (R.getD i []).length cp ∧ B i < W.heap.size ∧ W.cell? ⟨B i, s, none⟩ = some (.int .u64 ((gR R i s : Nat) : Int)) ∧ p = gR R i s) := hid (fun q hq => by
    obtain ⟨nb, h1, h2, _, h3, h4⟩ := hnn q hq
    have hs := hl (l.getD q 0) (by simp [List.getD, show q < l.length by omega])
    obtain ⟨cp, k1, k2, k3, k4, k5⟩ := h.sets.at (r := i) (j := l.getD q 0) hs
    exact ⟨nb, l.getD q 0, h1, rfl, h3, h4, hs, _, cp, k1, k2.lt, k5, rfl⟩)
  have M : Hid (∀ q, q < m → meant R i (l.take (q + 1)) = meant R i (l.take q) ||| gR R i (l.getD q 0)) := hid (fun q hq => by rw [take_snoc l q 0 (by omega), meant_snoc])
  have U : Hid (∀ q, meant R i (l.take q) < 2 ^ 64) := hid (fun q => meant_lt hU _ _)
  have U2 : Hid (AllU R) := hid hU
  have L : Hid (l.take m = l) := hid (List.take_of_length_le (by omega))
  obtain ⟨op, dst, src, rc, n, tt, its, iv, idx, xv⟩ := x
  clear h ho hnn hl hU hm
  subst e0
  simp only [Stp.cells]
  go_enter Tryd.func41, Tryd.ntmps41
  go_wp2_with fail
  generalize hlt : (List.length c.threads) = nT at *
  go_loopw [5, 11] (fun a t wr => ∃ q : Nat, t = .int .i64 q ∧ q ≤ m ∧ a = .int .u64 ((meant R i (l.take q) : Nat) : Int) ∧ Hid (Below W.heap.size W wr) ∧ wr.cell? ⟨W.heap.size, 8, none⟩ = some (.int .i64 (i : Int))) (fun _ t _ => m - (intOf t).toNat)
  case atStart => exact ⟨0, rfl, by omega, rfl, hid ((Below.refl _ _).alloc (Nat.le_refl _) _), new_cell _ _ _ _ _ rfl⟩
  case round =>
    obtain ⟨q, rfl, hq, rfl, Bl, c8⟩ := hrel
    by_cases hqm : q < m
    · obtain ⟨nb, s, rfl, hs, n1, n2, n3, p, cp, k1, k2, k3, hp⟩ := A.out q hqm
      have mq := hid (M.out q hqm)
      have u1 := U.out q
      have u2 := U2.out i s
      rw [hs, ← hp] at mq
      rw [← hp] at k3 u2
      have e1 := or64 u1 u2
      rw [k1] at o6
      rw [← Bl.out.cell n1] at n2
      rw [← Bl.out.cell k2] at k3
      rw [← Bl.out.cell o4] at o6
      rw [← Bl.out.cell hsb] at c5
      rw [← mq.out] at e1
      generalize meant R i (l.take q) = z at *
      generalize hz : meant R i (l.take (q + 1)) = z' at *
      replace hz := hid hz
      generalize (R.getD i []).length = rl at *
      clear A M U U2 L hs k1 hp mq u1 u2 k2 hsb n1
      go_wp2_with fail
      go_quiet (fail)
      go_wp2_with fail
      go_roundw
      case rel => exact ⟨q + 1, by go_num, by omega, by rw [hz.out], hid (below_drewN Bl.out _), c8⟩
      case measure => simp [intOf]; omega
    · have : q = m := by omega
      subst this
      have e := L.out
      rw [e]
      clear A M U U2 L e
      go_wp2
      go_ret
      exact ⟨rfl, Bl.out⟩
end Go.Proofs.YtdpbapoahfggeaaDoor
