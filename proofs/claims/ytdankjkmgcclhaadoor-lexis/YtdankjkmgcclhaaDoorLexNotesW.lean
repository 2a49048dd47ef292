/- The walk of the law LexNotes. -/
import Derived.Test.YtdankjkmgcclhaaDoorLexBackW
import Derived.Deep.QuietTactic
import Derived.BigQuiet
import Derived.Deep.CutBlock
import Derived.Deep.CutRange
import Derived.Deep.DeepCutAuto
namespace Go.Proofs.YtdankjkmgcclhaaDoor.lexNotes
open Go.ChangeShapes Go.WideShapes Go.ChangeAt Go.RowKit
set_option linter.unusedVariables false

open lexBack (lines lex_tok toks_len)

/-- What stands behind a blank. -/
def tailSep (nt : List UInt8) (i : Nat) : List UInt8 := if i % 3 = 0 then 9 :: 47 :: 47 :: (nt ++ [10]) else []
/-- Tokens with blanks and notes between. -/
def noted (nt : List UInt8) : Nat → List Tok → List UInt8
  | _, [] => []
  | i, x :: xs => x.text ++ 32 :: (tailSep nt i ++ noted nt (i + 1) xs)

theorem noted_snoc (nt : List UInt8) (i : Nat) (xs : List Tok) (x : Tok) : noted nt i (xs ++ [x]) = noted nt i xs ++ (x.text ++ 32 :: tailSep nt (i + xs.length)) := by
  induction xs generalizing i with
  | nil => simp [noted]
  | cons y xs ih =>
    simp only [List.cons_append, noted, ih, List.length_cons]
    rw [show i + 1 + xs.length = i + (xs.length + 1) by omega]
    simp

theorem noted_succ (nt : List UInt8) (ts : List Tok) (k : Nat) (h : k < ts.length) : noted nt 0 (ts.take (k + 1)) = noted nt 0 (ts.take k) ++ (ts[k]).text ++ [32] ++ tailSep nt k := by
  rw [List.take_succ_eq_append_getElem h, noted_snoc, List.length_take, Nat.min_eq_left (by omega)]
  simp

theorem noted_len (nt : List UInt8) (hn : nt.length ≤ 20) (i : Nat) (ts : List Tok) : (noted nt i ts).length ≤ (lines ts).length + 24 * ts.length := by
  induction ts generalizing i with
  | nil => simp [noted]
  | cons x xs ih =>
    have := ih (i + 1)
    have e : (lines (x :: xs)).length = x.text.length + 1 + (lines xs).length := by simp [lines]; omega
    have ht : (tailSep nt i).length ≤ 24 := by
      unfold tailSep
      split <;> simp <;> omega
    simp only [noted, List.length_append, List.length_cons, e]
    omega

theorem noted_take (nt : List UInt8) (ts : List Tok) (k : Nat) : (noted nt 0 (ts.take k)).length ≤ (noted nt 0 ts).length := by
  have key : ∀ (i : Nat) (a b : List Tok), (noted nt i a).length ≤ (noted nt i (a ++ b)).length := by
    intro i a b
    induction a generalizing i with
    | nil => simp [noted]
    | cons x a ih =>
      have := ih (i + 1)
      simp only [List.cons_append, noted, List.length_append, List.length_cons]
      omega
  have := key 0 (ts.take k) (ts.drop k)
  rwa [List.take_append_drop] at this

theorem gap_in (nt r : List UInt8) (h : 10 ∉ nt) : gapN true (nt ++ 10 :: r) = nt.length + 1 + gapN false r := by
  induction nt with
  | nil => rw [List.nil_append, gap_nl]; simp; omega
  | cons c nt ih =>
    simp only [List.mem_cons, not_or] at h
    rw [List.cons_append, gap_noted c _ (fun e => h.1 e.symm), ih h.2]
    simp
    omega

theorem gap_sep (nt : List UInt8) (h : 10 ∉ nt) (i : Nat) (r : List UInt8) : gapN false ((32 :: tailSep nt i) ++ r) = (32 :: tailSep nt i).length + gapN false r := by
  rw [List.cons_append, gap_blank false 32 _ (by decide) (Or.inl rfl)]
  unfold tailSep
  split
  · have h1 : gapN false (9 :: 47 :: 47 :: (nt ++ [10]) ++ r) = gapN false (47 :: 47 :: (nt ++ 10 :: r)) + 1 := by
      rw [show 9 :: 47 :: 47 :: (nt ++ [10]) ++ r = 9 :: (47 :: 47 :: (nt ++ 10 :: r)) by simp, gap_blank false 9 _ (by decide) (Or.inr (Or.inl rfl))]
    have h2 : preB [47, 47] (47 :: 47 :: (nt ++ 10 :: r)) = true := (preB_iff _ _).2 ⟨_, rfl⟩
    rw [h1, gap_note 47 _ h2, gap_noted 47 _ (by decide), gap_in nt r h]
    simp
    omega
  · simp
    omega

/-- What lies ahead of the next token changes nothing but places. -/
theorem lex_gap (g r : List UInt8) (p : Nat × Nat) (h : gapN false (g ++ r) = g.length + gapN false r) : lexF ((g ++ r).length + 1) (g ++ r) p = lexF (r.length + 1) r (adv p g) := by
  have e1 : (g ++ r).drop (g.length + gapN false r) = r.drop (gapN false r) := by rw [List.drop_append]; simp
  have e2 : (g ++ r).take (g.length + gapN false r) = g ++ r.take (gapN false r) := by rw [List.take_append, List.take_of_length_le (by omega)]; simp
  rw [lex_step (g ++ r), lex_step r, h, e1, e2, adv_app]

/-- Tokens alike, but for their places. -/
def SameL : List Tok → List Tok → Prop
  | [], [] => True
  | a :: us, b :: bs => (a.kind = b.kind ∧ a.text = b.text ∧ a.n = b.n) ∧ SameL us bs
  | _, _ => False

theorem same_len : ∀ (a b : List Tok), SameL a b → a.length = b.length
  | [], [], _ => rfl
  | _ :: us, _ :: bs, h => by simp only [List.length_cons]; rw [same_len us bs h.2]
  | [], _ :: _, h => h.elim
  | _ :: _, [], h => h.elim
theorem same_get : ∀ (a b : List Tok), SameL a b → ∀ (i : Nat) (t : Tok), b[i]? = some t → ∃ m : Tok, a[i]? = some m ∧ m.kind = t.kind ∧ m.text = t.text ∧ m.n = t.n
  | [], [], _, i, t, h => by simp at h
  | a :: us, b :: bs, h, i, t, ht => by
    cases i with
    | zero => simp only [List.getElem?_cons_zero, Option.some.injEq] at ht; subst ht; exact ⟨a, rfl, h.1⟩
    | succ i =>
      obtain ⟨m, h1, h2⟩ := same_get us bs h.2 i t (by simpa using ht)
      exact ⟨m, by simpa using h1, h2⟩
  | [], _ :: _, h, _, _, _ => h.elim
  | _ :: _, [], h, _, _, _ => h.elim

theorem notes (nt : List UInt8) (hn : 10 ∉ nt) (e : Tok) (e1 : e.kind = 0) (e2 : e.text = []) (e3 : e.n = 0) (xs : List Tok) (h : ∀ x ∈ xs, Stab x) (i : Nat) (p : Nat × Nat) :
    ∃ ms, lexF ((noted nt i (xs ++ [e])).length + 1) (noted nt i (xs ++ [e])) p = .ok ms ∧ SameL ms (xs ++ [e]) := by
  induction xs generalizing i p with
  | nil =>
    have he : noted nt i ([] ++ [e]) = (32 :: tailSep nt i) ++ [] := by simp [noted, e2]
    rw [he, lex_gap _ _ _ (gap_sep nt hn i [])]
    exact ⟨_, rfl, ⟨e1.symm, e2.symm, e3.symm⟩, trivial⟩
  | cons x xs ih =>
    have he : noted nt i (x :: xs ++ [e]) = x.text ++ 32 :: (tailSep nt i ++ noted nt (i + 1) (xs ++ [e])) := rfl
    rw [he, lex_tok x (h x (by simp)) 32 (Or.inr rfl)]
    have hg := lex_gap (32 :: tailSep nt i) (noted nt (i + 1) (xs ++ [e])) (p.1, p.2 + x.text.length) (gap_sep nt hn i _)
    rw [List.cons_append] at hg
    obtain ⟨ms, h1, h2⟩ := ih (fun y hy => h y (by simp [hy])) (i + 1) (adv (p.1, p.2 + x.text.length) (32 :: tailSep nt i))
    rw [hg, h1]
    exact ⟨_, rfl, ⟨rfl, rfl, rfl⟩, h2⟩

theorem pairs (nt : List UInt8) (hn : 10 ∉ nt) (ts : List Tok) (h : ∃ xs e, ts = xs ++ [e] ∧ e.kind = 0 ∧ e.text = [] ∧ e.n = 0 ∧ ∀ x ∈ xs, Stab x) :
    ∃ ms, lexL (noted nt 0 ts) = .ok ms ∧ ms.length = ts.length ∧ ∀ (i : Nat) (t : Tok), ts[i]? = some t → ∃ m : Tok, ms[i]? = some m ∧ m.kind = t.kind ∧ m.text = t.text ∧ m.n = t.n := by
  obtain ⟨xs, e, rfl, e1, e2, e3, hst⟩ := h
  obtain ⟨ms, h1, h2⟩ := notes nt hn e e1 e2 e3 xs hst 0 (1, 1)
  exact ⟨ms, h1, same_len _ _ h2, same_get _ _ h2⟩

set_option maxRecDepth 100000 in
set_option maxHeartbeats 4000000 in
theorem walk (a0 a1 : ByteArray) (w : World) (z0 : a0.size ≤ maxLen) (z1 : a1.size ≤ maxLen) (h : Errs w) (h' : Signs w) : Calls Tryd.prog 8 #[.string a0, .string a1] w fun e w' => e = .returned (.bool true) ∧ Below w.heap.size w w' := by
  obtain ⟨l, rfl⟩ : ∃ l, a0 = bstr l := ⟨_, (bstr_of a0).symm⟩
  obtain ⟨nt, rfl⟩ : ∃ l, a1 = bstr l := ⟨_, (bstr_of a1).symm⟩
  have s1 := bstr_size l
  have s2 := bstr_size nt
  have A := alive_any w h h'
  by_cases hl : l.length ≤ 4096
  · by_cases hnt : nt.length ≤ 20
    · go_enter Tryd.func8, Tryd.ntmps8
      go_wp2_with fail
      refine A.mono ?_
      rintro e w1 ⟨rfl, b1⟩
      have C10 := lex_any l (by omega) w1 (h.kept b1) (h'.kept b1)
      have b1 := hid b1
      clear A
      go_wp2_with fail
      go_loop [5] (fun vi => ∃ k : Nat, vi = .int .i64 k ∧ k ≤ nt.length ∧ Hid (10 ∉ nt.take k)) (fun vi => nt.length - (intOf vi).toNat)
      case atStart => exact ⟨0, rfl, by omega, hid (by simp)⟩
      case round =>
        obtain ⟨k, rfl, hk, hin⟩ := hrel
        by_cases hlt : k < nt.length
        · have hg := get_bstr nt k hlt (by omega)
          by_cases hc : nt[k] = 10
          · have t1 : (((nt[k]).toNat : Int) == 10) = true := by rw [hc]; rfl
            clear hc
            go_wp2
            go_ret
            exact ⟨rfl, b1.out⟩
          · have t1 : (((nt[k]).toNat : Int) == 10) = false := rune_ne rfl hc
            have F : Hid (10 ∉ nt.take (k + 1)) := hid (by
              rw [List.take_succ_eq_append_getElem hlt]
              simp only [List.mem_append, List.mem_singleton, not_or]
              exact ⟨hin.out, fun e => hc e.symm⟩)
            clear hc
            go_wp2
            go_round
            case rel => exact ⟨k + 1, by go_num, by omega, F⟩
            case measure => simp [intOf]; omega
        · have hn10 : Hid (10 ∉ nt) := hid (by have := hin.out; rwa [List.take_of_length_le (by omega)] at this)
          go_wp2_with fail
          refine C10.mono ?_
          rintro e w5 ⟨r, rfl, ha, b5⟩
          have b05 := hid (Below.over b1.out b5)
          clear b5 C10 hin
          cases hx : lexL l with
          | error p =>
            rw [LexAns, hx] at ha
            subst ha
            have hv : faultV 3 p.1 p.2 = .agg #[.int .i64 3, .int .i64 p.1, .int .i64 p.2] := rfl
            rw [hv]
            clear hx
            go_wp2
            go_ret
            exact ⟨rfl, b05.out.alloc b05.out.size _⟩
          | ok ts =>
            have hsp := hid (lex_toks _ _ _ _ hx)
            obtain ⟨tl1, tl2⟩ := toks_len _ _ _ _ hx
            have hn0 : 0 < ts.length := by obtain ⟨xs, e, rfl, _⟩ := hsp.out; simp
            have tl3 := noted_len nt hnt 0 ts
            rw [LexAns, hx] at ha
            obtain ⟨v, rfl, own⟩ := ha
            obtain ⟨g, c, rfl, hg1, hg2⟩ := row_slice own hn0
            have R := rowAt_of own rfl
            have hv : faultV 0 0 0 = .agg #[.int .i64 0, .int .i64 0, .int .i64 0] := rfl
            rw [hv]
            have R6 := hid (R.kept hg2 ((Below.refl _ _).alloc (Nat.le_refl _) (Obj.cells #[Value.int IntKind.i64 0, Value.int IntKind.i64 0, Value.int IntKind.i64 0] 26)))
            have b06 := hid (b05.out.alloc b05.out.size (Obj.cells #[Value.int IntKind.i64 0, Value.int IntKind.i64 0, Value.int IntKind.i64 0] 26))
            have hg6 : g < (w5.alloc (Obj.cells #[Value.int IntKind.i64 0, Value.int IntKind.i64 0, Value.int IntKind.i64 0] 26)).heap.size := by rw [World.size_alloc]; omega
            clear own hx hv R
            go_wp2_with fail
            generalize w5.alloc (Obj.cells #[Value.int IntKind.i64 0, Value.int IntKind.i64 0, Value.int IntKind.i64 0] 26) = w6 at *
            go_loopw [8, 44] (fun vt vi wr => ∃ k : Nat, vi = .int .i64 k ∧ k ≤ ts.length ∧ vt = .string (bstr (noted nt 0 (ts.take k))) ∧ Hid (Below w6.heap.size w6 wr)) (fun _ vi _ => ts.length - (intOf vi).toNat)
            case atStart => exact ⟨0, rfl, by omega, rfl, hid (Below.refl _ _)⟩
            case round =>
              obtain ⟨k, rfl, hk, rfl, hb⟩ := hrel
              by_cases hlt : k < ts.length
              · have hget : ts[k]? = some ts[k] := List.getElem?_eq_getElem hlt
                obtain ⟨d0, d1, d2, d3, d4⟩ := row5 (R6.out.kept hg6 hb.out) hget
                clear hget
                have hsu := hid (noted_succ nt ts k hlt)
                have hle := noted_take nt ts (k + 1)
                rw [hsu.out] at hle
                simp only [List.length_append, List.length_cons, List.length_nil] at hle
                have q1 : ¬ 9223372036854775807 < (bstr (noted nt 0 (ts.take k))).size + (bstr (ts[k]).text).size := by rw [bstr_size, bstr_size]; omega
                have q2 : ¬ 9223372036854775807 < (bstr (noted nt 0 (ts.take k))).size + (bstr (ts[k]).text).size + 1 := by rw [bstr_size, bstr_size]; omega
                by_cases h3 : k % 3 = 0
                · have N1 : Hid (bstr (noted nt 0 (ts.take k)) ++ bstr (ts[k]).text ++ { data := #[32] } ++ { data := #[9, 47, 47] } ++ bstr nt ++ { data := #[10] } = bstr (noted nt 0 (ts.take (k + 1)))) := hid (by
                    rw [hsu.out, tailSep, if_pos h3]
                    show bstr (noted nt 0 (ts.take k)) ++ bstr (ts[k]).text ++ bstr [32] ++ bstr [9, 47, 47] ++ bstr nt ++ bstr [10] = _
                    rw [bstr_app, bstr_app, bstr_app, bstr_app, bstr_app]
                    congr 1
                    simp)
                  have tlen : (tailSep nt k).length = nt.length + 4 := by simp [tailSep, h3]
                  rw [tlen] at hle
                  have q3 : ¬ 9223372036854775807 < (bstr (noted nt 0 (ts.take k))).size + (bstr (ts[k]).text).size + 1 + 3 := by rw [bstr_size, bstr_size]; omega
                  have q4 : ¬ 9223372036854775807 < (bstr (noted nt 0 (ts.take k))).size + (bstr (ts[k]).text).size + 1 + 3 + nt.length := by rw [bstr_size, bstr_size]; omega
                  have q5 : ¬ 9223372036854775807 < (bstr (noted nt 0 (ts.take k))).size + (bstr (ts[k]).text).size + 1 + 3 + nt.length + 1 := by rw [bstr_size, bstr_size]; omega
                  have t3 : ((k : Int) % 3 == 0) = true := by rw [beq_iff_eq]; omega
                  clear tlen hsu hle h3
                  go_wp2
                  go_roundw
                  case rel => exact ⟨k + 1, by go_num, by omega, by rw [N1.out], hid (hb.out.alloc hb.out.size _)⟩
                  case measure => simp [intOf]; omega
                · have N1 : Hid (bstr (noted nt 0 (ts.take k)) ++ bstr (ts[k]).text ++ { data := #[32] } = bstr (noted nt 0 (ts.take (k + 1)))) := hid (by
                    rw [hsu.out, tailSep, if_neg h3]
                    show bstr (noted nt 0 (ts.take k)) ++ bstr (ts[k]).text ++ bstr [32] = _
                    rw [bstr_app, bstr_app]
                    congr 1
                    simp)
                  have t3 : ((k : Int) % 3 == 0) = false := by rw [beq_eq_false_iff_ne]; omega
                  clear hsu hle h3
                  go_wp2
                  go_roundw
                  case rel => exact ⟨k + 1, by go_num, by omega, by rw [N1.out], hid (hb.out.alloc hb.out.size _)⟩
                  case measure => simp [intOf]; omega
              · obtain rfl : k = ts.length := by omega
                have tk : ts.take ts.length = ts := List.take_length
                rw [tk]
                have s3 := bstr_size (noted nt 0 ts)
                by_cases hsz : (noted nt 0 ts).length ≤ 8192
                · obtain ⟨ms, hms, hml, hpr⟩ := pairs nt hn10.out ts hsp.out
                  have hpr := hid hpr
                  have b0r : Below w.heap.size w wr := b06.out.trans (hb.out.mono b06.out.size)
                  have C10 := lex_any (noted nt 0 ts) hsz wr (h.kept b0r) (h'.kept b0r)
                  have b0r := hid b0r
                  clear tk hsp
                  go_wp2_with fail
                  refine C10.mono ?_
                  rintro e w7 ⟨r, rfl, ha, b7⟩
                  rw [LexAns, hms] at ha
                  obtain ⟨v, rfl, own⟩ := ha
                  rw [hml] at own
                  obtain ⟨g2, c2, rfl, hg3, hg4⟩ := row_slice own hn0
                  have hv : faultV 0 0 0 = .agg #[.int .i64 0, .int .i64 0, .int .i64 0] := rfl
                  rw [hv]
                  have kA : Below wr.heap.size wr (w7.alloc (.cells #[.int .i64 0, .int .i64 0, .int .i64 0] 26)) := b7.alloc b7.size _
                  have k8 := hid (Below.over b0r.out kA)
                  have R1 := hid ((R6.out.kept hg6 hb.out).kept (Nat.lt_of_lt_of_le hg6 hb.out.size) kA)
                  have R2 := hid ((rowAt_of own rfl).kept hg4 ((Below.refl _ _).alloc (Nat.le_refl _) (.cells #[.int .i64 0, .int .i64 0, .int .i64 0] 26)))
                  have g8 : g < (w7.alloc (.cells #[.int .i64 0, .int .i64 0, .int .i64 0] 26)).heap.size := Nat.lt_of_lt_of_le (Nat.lt_of_lt_of_le hg6 hb.out.size) kA.size
                  have h8 : g2 < (w7.alloc (.cells #[.int .i64 0, .int .i64 0, .int .i64 0] 26)).heap.size := by rw [World.size_alloc]; omega
                  clear own hv C10 hms hml kA b7
                  go_wp2_with fail
                  generalize w7.alloc (.cells #[.int .i64 0, .int .i64 0, .int .i64 0] 26) = w8 at *
                  go_loopw [83] (fun vi wx => ∃ k : Nat, vi = .int .i64 k ∧ k ≤ ts.length ∧ Hid (Below w8.heap.size w8 wx)) (fun vi _ => ts.length - (intOf vi).toNat)
                  case atStart => exact ⟨0, rfl, by omega, hid (Below.refl _ _)⟩
                  case round =>
                    obtain ⟨k, rfl, hk, hbx⟩ := hrel
                    by_cases hlt : k < ts.length
                    · have hget : ts[k]? = some ts[k] := List.getElem?_eq_getElem hlt
                      obtain ⟨m, hm, m1, m2, m3⟩ := hpr.out k _ hget
                      obtain ⟨d0, d1, d2, d3, d4⟩ := row5 (R1.out.kept g8 hbx.out) hget
                      obtain ⟨c0, c1, c2, c3, c4⟩ := row5 (R2.out.kept h8 hbx.out) hm
                      rw [m1] at c0
                      rw [m2] at c1
                      rw [m3] at c2
                      clear hm hget m1 m2 m3
                      have tt : ((bstr (ts[k]).text).toList == (bstr (ts[k]).text).toList) = true := by simp
                      go_wp2_with fail
                      go_quiet (fail)
                      go_wp2
                      refine ⟨⟨k + 1, by go_num, by omega, hid (below_drewN hbx.out _)⟩, ?_⟩
                      simp [intOf]; omega
                    · go_wp2
                      go_ret
                      exact ⟨rfl, k8.out.trans (hbx.out.mono k8.out.size)⟩
                · clear tk
                  go_wp2
                  go_ret
                  exact ⟨rfl, b06.out.trans (hb.out.mono b06.out.size)⟩
    · go_enter Tryd.func8, Tryd.ntmps8
      go_wp2_with (go_at_call 9; refine A.mono ?_; rintro e w1 ⟨rfl, b1⟩)
      go_ret
      exact ⟨rfl, by assumption⟩
  · go_enter Tryd.func8, Tryd.ntmps8
    go_wp2_with (go_at_call 9; refine A.mono ?_; rintro e w1 ⟨rfl, b1⟩)
    go_ret
    exact ⟨rfl, by assumption⟩
end Go.Proofs.YtdankjkmgcclhaaDoor.lexNotes
