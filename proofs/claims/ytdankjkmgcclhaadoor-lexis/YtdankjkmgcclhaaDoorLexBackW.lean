/- The walk of the law LexBack. -/
import Derived.Test.YtdankjkmgcclhaaDoorReads
import Derived.Deep.QuietTactic
import Derived.BigQuiet
import Derived.Deep.CutBlock
import Derived.Deep.CutRange
import Derived.Deep.DeepCutAuto
namespace Go.Proofs.YtdankjkmgcclhaaDoor.lexBack
open Go.ChangeShapes Go.WideShapes Go.ChangeAt Go.RowKit
set_option linter.unusedVariables false

/-- Tokens, one a line. -/
def lines (xs : List Tok) : List UInt8 := xs.flatMap (fun x => x.text ++ [10])
/-- The same tokens, one a line, from a line on. -/
def relin : Nat → List Tok → List Tok
  | _, [] => []
  | n, x :: xs => ⟨x.kind, x.text, x.n, n, 1⟩ :: relin (n + 1) xs

theorem lines_cons (x : Tok) (xs : List Tok) (r : List UInt8) : lines (x :: xs) ++ r = x.text ++ 10 :: (lines xs ++ r) := by simp [lines]
theorem lines_app (a b : List Tok) : lines (a ++ b) = lines a ++ lines b := List.flatMap_append ..
theorem relin_len (n : Nat) (xs : List Tok) : (relin n xs).length = xs.length := by
  induction xs generalizing n with
  | nil => rfl
  | cons x xs ih => simp [relin, ih]
theorem relin_get (n : Nat) (xs : List Tok) (i : Nat) (x : Tok) (h : xs[i]? = some x) : (relin n xs)[i]? = some ⟨x.kind, x.text, x.n, n + i, 1⟩ := by
  induction xs generalizing n i with
  | nil => simp at h
  | cons y xs ih =>
    cases i with
    | zero => simp only [List.getElem?_cons_zero, Option.some.injEq] at h; subst h; rfl
    | succ i =>
      have := ih (n + 1) i (by simpa using h)
      simp only [relin, List.getElem?_cons_succ]
      rw [this, show n + 1 + i = n + (i + 1) by omega]

theorem lex_tok (x : Tok) (hx : Stab x) (s : UInt8) (hs : Sep s) (r : List UInt8) (p : Nat × Nat) :
    lexF ((x.text ++ s :: r).length + 1) (x.text ++ s :: r) p = preT [⟨x.kind, x.text, x.n, p.1, p.2⟩] (lexF ((s :: r).length + 1) (s :: r) (p.1, p.2 + x.text.length)) := by
  rw [lex_step, hx.gap s r hs]
  simp only [List.drop_zero, List.take_zero, adv_nil, hx.first s r hs, if_neg hx.kind, List.drop_left]
  rw [adv_plain _ _ hx.line]

/-- A line feed ahead of something that begins without a gap. -/
theorem lex_nl (l : List UInt8) (p : Nat × Nat) (hg : gapN false l = 0) : lexF ((10 :: l).length + 1) (10 :: l) p = lexF (l.length + 1) l (p.1 + 1, 1) := by
  rw [lex_step (10 :: l), lex_step l, gap_nl, hg]
  simp only [Nat.zero_add, List.drop_succ_cons, List.drop_zero, List.take_succ_cons, List.take_zero, adv_nil]
  rfl

theorem lines_gap (xs : List Tok) (h : ∀ x ∈ xs, Stab x) (hne : xs ≠ []) (r : List UInt8) : gapN false (lines xs ++ r) = 0 := by
  cases xs with
  | nil => exact absurd rfl hne
  | cons x xs => rw [lines_cons]; exact (h x (by simp)).gap 10 _ (Or.inl rfl)

theorem lex_lines (xs : List Tok) (h : ∀ x ∈ xs, Stab x) (n c : Nat) :
    lexF ((10 :: (lines xs ++ [10])).length + 1) (10 :: (lines xs ++ [10])) (n, c) = .ok (relin (n + 1) xs ++ [⟨0, [], 0, n + xs.length + 2, 1⟩]) := by
  induction xs generalizing n c with
  | nil => rfl
  | cons x xs ih =>
    rw [lex_nl _ _ (lines_gap (x :: xs) h (by simp) [10]), lines_cons, lex_tok x (h x (by simp)) 10 (Or.inl rfl), ih (fun y hy => h y (by simp [hy]))]
    simp only [relin, preT, List.length_cons, List.cons_append, List.nil_append]
    congr 6
    omega

/-- Tokens, one a line, are the same tokens again. -/
theorem back (xs : List Tok) (h : ∀ x ∈ xs, Stab x) (e : Tok) (he : e.text = []) : ∃ f : Tok, lexL (lines (xs ++ [e])) = .ok (relin 1 xs ++ [f]) ∧ f.kind = 0 ∧ f.text = [] ∧ f.n = 0 := by
  have e1 : lines (xs ++ [e]) = lines xs ++ [10] := by simp [lines, he]
  rw [e1]
  cases xs with
  | nil => exact ⟨⟨0, [], 0, 2, 1⟩, rfl, rfl, rfl, rfl⟩
  | cons x xs =>
    refine ⟨⟨0, [], 0, 1 + xs.length + 2, 1⟩, ?_, rfl, rfl, rfl⟩
    rw [lines_cons, lexL, lex_tok x (h x (by simp)) 10 (Or.inl rfl), lex_lines xs (fun y hy => h y (by simp [hy]))]
    rfl

theorem lines_take (ts : List Tok) (k : Nat) : (lines (ts.take k)).length ≤ (lines ts).length := by
  conv => rhs; rw [← List.take_append_drop k ts, lines_app, List.length_append]
  omega
theorem lines_succ (ts : List Tok) (k : Nat) (h : k < ts.length) : lines (ts.take (k + 1)) = lines (ts.take k) ++ (ts[k]).text ++ [10] := by
  rw [List.take_succ_eq_append_getElem h, lines_app]
  simp [lines]

theorem toks_len (f : Nat) (l : List UInt8) (p : Nat × Nat) (ts : List Tok) (h : lexF f l p = .ok ts) : (lines ts).length ≤ 2 * l.length + 1 ∧ ts.length ≤ l.length + 1 := by
  induction f generalizing l p ts with
  | zero => cases h
  | succ f ih =>
    rw [lexF] at h
    cases hf : firstT (l.drop (gapN false l)) with
    | none => rw [hf] at h; cases h
    | some x =>
      obtain ⟨k, t, n⟩ := x
      rw [hf] at h
      simp only at h
      by_cases hk : k = 0
      · rw [if_pos hk] at h
        cases h
        rcases first_spec hf with ⟨_, _, h2, h3⟩ | ⟨h0, _⟩
        · subst h2; simp [lines]
        · exact absurd hk h0
      · rw [if_neg hk] at h
        rcases first_spec hf with ⟨h0, _⟩ | ⟨_, h1, ⟨r, hr⟩, h10⟩
        · exact absurd h0 hk
        · have e : (l.drop (gapN false l)).drop t.length = r := by rw [hr]; simp
          have hl := congrArg List.length hr
          simp at hl
          rw [e] at h
          cases hq : lexF f r (adv (adv p (l.take (gapN false l))) t) with
          | error e => rw [hq] at h; cases h
          | ok us =>
            rw [hq] at h
            cases h
            have := ih _ _ _ hq
            have e2 : lines (⟨k, t, n, (adv p (l.take (gapN false l))).1, (adv p (l.take (gapN false l))).2⟩ :: us) = t ++ 10 :: lines us := by simp [lines]
            simp only [List.cons_append, List.nil_append, List.length_cons, e2, List.length_append]
            omega

theorem pairs (ts : List Tok) (h : ∃ xs e, ts = xs ++ [e] ∧ e.kind = 0 ∧ e.text = [] ∧ e.n = 0 ∧ ∀ x ∈ xs, Stab x) :
    ∃ ms, lexL (lines ts) = .ok ms ∧ ms.length = ts.length ∧ ∀ i t, ts[i]? = some t → ∃ m : Tok, ms[i]? = some m ∧ m.kind = t.kind ∧ m.text = t.text ∧ m.n = t.n ∧ (i + 1 < ts.length → m.line = i + 1 ∧ m.col = 1) := by
  obtain ⟨xs, e, rfl, e1, e2, e3, hst⟩ := h
  obtain ⟨f, hf, f1, f2, f3⟩ := back xs hst e e2
  refine ⟨_, hf, by simp [relin_len], ?_⟩
  intro i t ht
  by_cases hi : i < xs.length
  · rw [List.getElem?_append_left hi] at ht
    have := relin_get 1 xs i t ht
    exact ⟨⟨t.kind, t.text, t.n, 1 + i, 1⟩, by rw [List.getElem?_append_left (by rw [relin_len]; exact hi)]; exact this, rfl, rfl, rfl, fun _ => ⟨Nat.add_comm 1 i, rfl⟩⟩
  · have hlt : i < (xs ++ [e]).length := (List.getElem?_eq_some_iff.1 ht).1
    simp at hlt
    obtain rfl : i = xs.length := by omega
    simp at ht
    subst ht
    refine ⟨f, by rw [List.getElem?_append_right (by rw [relin_len]; exact Nat.le_refl _), relin_len]; simp, by rw [f1, e1], by rw [f2, e2], by rw [f3, e3], fun h => ?_⟩
    simp at h

set_option maxRecDepth 100000 in
set_option maxHeartbeats 4000000 in
theorem walk (a0 : ByteArray) (w : World) (z0 : a0.size ≤ maxLen) (h : Errs w) (h' : Signs w) : Calls Tryd.prog 5 #[.string a0] w fun e w' => e = .returned (.bool true) ∧ Below w.heap.size w w' := by
  obtain ⟨l, rfl⟩ : ∃ l, a0 = bstr l := ⟨_, (bstr_of a0).symm⟩
  have s1 := bstr_size l
  have A := alive_any w h h'
  by_cases hl : l.length ≤ 8192
  · go_enter Tryd.func5, Tryd.ntmps5
    go_wp2_with fail
    refine A.mono ?_
    rintro e w1 ⟨rfl, b1⟩
    have C10 := lex_any l hl w1 (h.kept b1) (h'.kept b1)
    have b1 := hid b1
    go_wp2_with fail
    refine C10.mono ?_
    rintro e w5 ⟨r, rfl, ha, b5⟩
    have b05 := hid (Below.over b1.out b5)
    clear b5 C10 b1 A
    cases hx : lexL l with
    | error p =>
      rw [LexAns, hx] at ha
      subst ha
      have hv : faultV 3 p.1 p.2 = .agg #[.int .i64 3, .int .i64 p.1, .int .i64 p.2] := rfl
      rw [hv]
      clear hx
      go_wp2
      go_ret
      exact ⟨rfl, b05.out.alloc b05.out.size _⟩
    | ok ts =>
      have hsp := hid (lex_toks _ _ _ _ hx)
      obtain ⟨tl1, tl2⟩ := toks_len _ _ _ _ hx
      have hn0 : 0 < ts.length := by obtain ⟨xs, e, rfl, _⟩ := hsp.out; simp
      rw [LexAns, hx] at ha
      obtain ⟨v, rfl, own⟩ := ha
      obtain ⟨g, c, rfl, hg1, hg2⟩ := row_slice own hn0
      have R := rowAt_of own rfl
      have hv : faultV 0 0 0 = .agg #[.int .i64 0, .int .i64 0, .int .i64 0] := rfl
      rw [hv]
      have R6 : ∀ o, RowAt (w5.alloc o) g ts := fun o => R.kept hg2 ((Below.refl _ _).alloc (Nat.le_refl _) _)
      have R6 := hid R6
      clear own hx hv R
      go_wp2_with fail
      have b06 : ∀ o, Below w.heap.size w (w5.alloc o) := fun o => b05.out.alloc b05.out.size o
      have b06 := hid (b06 (Obj.cells #[Value.int IntKind.i64 0, Value.int IntKind.i64 0, Value.int IntKind.i64 0] 26))
      have R6 := hid (R6.out (Obj.cells #[Value.int IntKind.i64 0, Value.int IntKind.i64 0, Value.int IntKind.i64 0] 26))
      have hg6 : g < (w5.alloc (Obj.cells #[Value.int IntKind.i64 0, Value.int IntKind.i64 0, Value.int IntKind.i64 0] 26)).heap.size := by rw [World.size_alloc]; omega
      generalize w5.alloc (Obj.cells #[Value.int IntKind.i64 0, Value.int IntKind.i64 0, Value.int IntKind.i64 0] 26) = w6 at *
      go_loopw [5, 29] (fun vt vi wr => ∃ k : Nat, vi = .int .i64 k ∧ k ≤ ts.length ∧ vt = .string (bstr (lines (ts.take k))) ∧ Hid (Below w6.heap.size w6 wr)) (fun _ vi _ => ts.length - (intOf vi).toNat)
      case atStart => exact ⟨0, rfl, by omega, rfl, hid (Below.refl _ _)⟩
      case round =>
        obtain ⟨k, rfl, hk, rfl, hb⟩ := hrel
        by_cases hlt : k < ts.length
        · have hget : ts[k]? = some ts[k] := List.getElem?_eq_getElem hlt
          obtain ⟨d0, d1, d2, d3, d4⟩ := row5 (R6.out.kept hg6 hb.out) hget
          clear hget
          have hsu := hid (lines_succ ts k hlt)
          have hle := lines_take ts (k + 1)
          rw [hsu.out] at hle
          simp only [List.length_append, List.length_cons, List.length_nil] at hle
          have q1 : ¬ 9223372036854775807 < (bstr (lines (ts.take k))).size + (bstr (ts[k]).text).size := by rw [bstr_size, bstr_size]; omega
          have q2 : ¬ 9223372036854775807 < (bstr (lines (ts.take k))).size + (bstr (ts[k]).text).size + 1 := by rw [bstr_size, bstr_size]; omega
          have N1 : Hid (bstr (lines (ts.take k)) ++ bstr (ts[k]).text ++ { data := #[10] } = bstr (lines (ts.take (k + 1)))) := hid (by
            rw [hsu.out, ← bstr_app, ← bstr_app]; rfl)
          clear hle hsu
          go_wp2
          go_roundw
          case rel => exact ⟨k + 1, by go_num, by omega, by rw [N1.out], hid (hb.out.alloc hb.out.size _)⟩
          case measure => simp [intOf]; omega
        · obtain rfl : k = ts.length := by omega
          have tk : ts.take ts.length = ts := List.take_length
          rw [tk]
          have s2 := bstr_size (lines ts)
          by_cases hsz : (lines ts).length ≤ 8192
          · obtain ⟨ms, hms, hml, hpr⟩ := pairs ts hsp.out
            have hpr := hid hpr
            have b0r : Below w.heap.size w wr := b06.out.trans (hb.out.mono b06.out.size)
            have C10 := lex_any (lines ts) hsz wr (h.kept b0r) (h'.kept b0r)
            have b0r := hid b0r
            clear tk hsp
            go_wp2_with fail
            refine C10.mono ?_
            rintro e w7 ⟨r, rfl, ha, b7⟩
            rw [LexAns, hms] at ha
            obtain ⟨v, rfl, own⟩ := ha
            rw [hml] at own
            obtain ⟨g2, c2, rfl, hg3, hg4⟩ := row_slice own hn0
            have hv : faultV 0 0 0 = .agg #[.int .i64 0, .int .i64 0, .int .i64 0] := rfl
            rw [hv]
            have kA : Below wr.heap.size wr (w7.alloc (.cells #[.int .i64 0, .int .i64 0, .int .i64 0] 26)) := b7.alloc b7.size _
            have k8 := hid (Below.over b0r.out kA)
            have R1 := hid ((R6.out.kept hg6 hb.out).kept (Nat.lt_of_lt_of_le hg6 hb.out.size) kA)
            have R2 := hid ((rowAt_of own rfl).kept hg4 ((Below.refl _ _).alloc (Nat.le_refl _) (.cells #[.int .i64 0, .int .i64 0, .int .i64 0] 26)))
            have g8 : g < (w7.alloc (.cells #[.int .i64 0, .int .i64 0, .int .i64 0] 26)).heap.size := Nat.lt_of_lt_of_le (Nat.lt_of_lt_of_le hg6 hb.out.size) kA.size
            have h8 : g2 < (w7.alloc (.cells #[.int .i64 0, .int .i64 0, .int .i64 0] 26)).heap.size := by rw [World.size_alloc]; omega
            clear own hv C10 hms hml kA b7
            go_wp2_with fail
            generalize w7.alloc (.cells #[.int .i64 0, .int .i64 0, .int .i64 0] 26) = w8 at *
            go_loopw [59] (fun vi wx => ∃ k : Nat, vi = .int .i64 k ∧ k ≤ ts.length ∧ Hid (Below w8.heap.size w8 wx)) (fun vi _ => ts.length - (intOf vi).toNat)
            case atStart => exact ⟨0, rfl, by omega, hid (Below.refl _ _)⟩
            case round =>
              obtain ⟨k, rfl, hk, hbx⟩ := hrel
              by_cases hlt : k < ts.length
              · have hget : ts[k]? = some ts[k] := List.getElem?_eq_getElem hlt
                obtain ⟨m, hm, m1, m2, m3, m4⟩ := hpr.out k _ hget
                obtain ⟨d0, d1, d2, d3, d4⟩ := row5 (R1.out.kept g8 hbx.out) hget
                obtain ⟨c0, c1, c2, c3, c4⟩ := row5 (R2.out.kept h8 hbx.out) hm
                rw [m1] at c0
                rw [m2] at c1
                rw [m3] at c2
                clear hm hget m1 m2 m3
                have tt : ((bstr (ts[k]).text).toList == (bstr (ts[k]).text).toList) = true := by simp
                by_cases hlast : k + 1 < ts.length
                · obtain ⟨m5, m6⟩ := m4 hlast
                  rw [m5] at c3
                  rw [m6] at c4
                  clear m4 m5 m6
                  have hd : decide ((k : Int) + 1 < (ts.length : Int)) = true := by simp; omega
                  go_wp2_with fail
                  go_quiet (fail)
                  go_wp2
                  refine ⟨⟨k + 1, by go_num, by omega, hid (below_drewN hbx.out _)⟩, ?_⟩
                  simp [intOf]; omega
                · have hd : decide ((k : Int) + 1 < (ts.length : Int)) = false := by simp; omega
                  clear m4
                  go_wp2_with fail
                  go_quiet (fail)
                  go_wp2
                  refine ⟨⟨k + 1, by go_num, by omega, hid (below_drewN hbx.out _)⟩, ?_⟩
                  simp [intOf]; omega
              · go_wp2
                go_ret
                exact ⟨rfl, k8.out.trans (hbx.out.mono k8.out.size)⟩
          · clear tk
            go_wp2
            go_ret
            exact ⟨rfl, b06.out.trans (hb.out.mono b06.out.size)⟩
  · go_enter Tryd.func5, Tryd.ntmps5
    go_wp2_with (go_at_call 9; refine A.mono ?_; rintro e w1 ⟨rfl, b1⟩)
    go_ret
    exact ⟨rfl, by assumption⟩
end Go.Proofs.YtdankjkmgcclhaaDoor.lexBack
