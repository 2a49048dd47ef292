/- The walk of the law LexPlaces. -/
import Derived.Test.YtdankjkmgcclhaaDoorReads
import Derived.Deep.QuietTactic
import Derived.BigQuiet
import Derived.Deep.CutBlock
import Derived.Deep.CutRange
import Derived.Deep.DeepCutAuto
namespace Go.Proofs.YtdankjkmgcclhaaDoor.lexPlaces
open Go.ChangeShapes Go.WideShapes Go.ChangeAt Go.RowKit
set_option linter.unusedVariables false

/-- The place of the how manyth byte of a text. -/
def pl (l : List UInt8) (i : Nat) : Nat × Nat := adv (1, 1) (l.take i)

theorem adv_lt (p : Nat × Nat) (c : UInt8) (x : List UInt8) : p.1 < (adv p (c :: x)).1 ∨ ((adv p (c :: x)).1 = p.1 ∧ p.2 < (adv p (c :: x)).2) := by
  induction x generalizing p c with
  | nil =>
    rw [adv_cons, adv_nil]
    unfold adv1
    split
    · left; simp
    · right; simp
  | cons d x ih =>
    rw [adv_cons]
    have := ih (adv1 p c) d
    have h1 : p.1 < (adv1 p c).1 ∨ ((adv1 p c).1 = p.1 ∧ p.2 < (adv1 p c).2) := by
      unfold adv1
      split
      · left; simp
      · right; simp
    omega

theorem pl_ne (l : List UInt8) (a b : Nat) (h : a < b) (hb : b ≤ l.length) : pl l b ≠ pl l a := by
  have e : l.take b = l.take a ++ (l.drop a).take (b - a) := by
    conv => lhs; rw [show b = a + (b - a) by omega, List.take_add]
  have hd : l.drop a = l[a]'(by omega) :: l.drop (a + 1) := List.drop_eq_getElem_cons (by omega)
  obtain ⟨k, hk⟩ : ∃ k, b - a = k + 1 := ⟨b - a - 1, by omega⟩
  unfold pl
  rw [e, adv_app, hd, hk, List.take_succ_cons]
  intro he
  have := adv_lt (adv (1, 1) (l.take a)) (l[a]'(by omega)) ((l.drop (a + 1)).take k)
  rw [he] at this
  omega

theorem pl_succ (l : List UInt8) (i : Nat) (h : i < l.length) : pl l (i + 1) = adv1 (pl l i) l[i] := by
  unfold pl
  rw [List.take_succ_eq_append_getElem h, adv_app]
  rfl

theorem pl_text (l : List UInt8) (j : Nat) (t r : List UInt8) (h : l.drop j = t ++ r) : adv (pl l j) t = pl l (j + t.length) := by
  unfold pl
  rw [List.take_add, adv_app, h]
  simp

/-- These tokens stand in a text from a byte on. -/
def Here (l : List UInt8) : Nat → List Tok → Prop
  | _, [] => False
  | i, [e] => e.kind = 0 ∧ i ≤ l.length ∧ (e.line, e.col) = pl l l.length
  | i, t :: u :: us => ∃ o, i ≤ o ∧ t.kind ≠ 0 ∧ 1 ≤ t.text.length ∧ (∃ r, l.drop o = t.text ++ r) ∧ (t.line, t.col) = pl l o ∧ Here l (o + t.text.length) (u :: us)

theorem here_mono (l : List UInt8) (i j : Nat) (us : List Tok) (h : Here l j us) (hij : i ≤ j) : Here l i us := by
  match us, h with
  | [e], ⟨h1, h2, h3⟩ => exact ⟨h1, by omega, h3⟩
  | t :: u :: us, ⟨o, h1, h2⟩ => exact ⟨o, by omega, h2⟩

theorem here_of (l : List UInt8) (f i : Nat) (hi : i ≤ l.length) (ts : List Tok) (h : lexF f (l.drop i) (pl l i) = .ok ts) : Here l i ts := by
  induction f generalizing i ts with
  | zero => cases h
  | succ f ih =>
    rw [lexF] at h
    have hg := gap_le false (l.drop i)
    have hlen : (l.drop i).length = l.length - i := List.length_drop
    have e1 : (l.drop i).drop (gapN false (l.drop i)) = l.drop (i + gapN false (l.drop i)) := List.drop_drop
    have e2 : adv (pl l i) ((l.drop i).take (gapN false (l.drop i))) = pl l (i + gapN false (l.drop i)) := by
      unfold pl
      rw [← adv_app, ← List.take_add]
    rw [e1, e2] at h
    generalize gapN false (l.drop i) = g at *
    cases hf : firstT (l.drop (i + g)) with
    | none => rw [hf] at h; cases h
    | some x =>
      obtain ⟨k, t, n⟩ := x
      rw [hf] at h
      simp only at h
      by_cases hk : k = 0
      · rw [if_pos hk] at h
        cases h
        rcases first_spec hf with ⟨_, h1, h2, h3⟩ | ⟨h0, _⟩
        · have : i + g = l.length := by
            have := congrArg List.length h1
            simp at this
            omega
          exact ⟨hk, hi, by rw [← this]⟩
        · exact absurd hk h0
      · rw [if_neg hk] at h
        rcases first_spec hf with ⟨h0, _⟩ | ⟨_, h1, ⟨r, hr⟩, h10⟩
        · exact absurd h0 hk
        · have hl := congrArg List.length hr
          simp at hl
          have e3 : (l.drop (i + g)).drop t.length = l.drop (i + g + t.length) := List.drop_drop
          have e4 : adv (pl l (i + g)) t = pl l (i + g + t.length) := pl_text l (i + g) t r hr
          rw [e3, e4] at h
          cases hq : lexF f (l.drop (i + g + t.length)) (pl l (i + g + t.length)) with
          | error e => rw [hq] at h; cases h
          | ok us =>
            rw [hq] at h
            cases h
            have := ih (i + g + t.length) (by omega) us hq
            match us, this with
            | u :: us, this => exact ⟨i + g, by omega, hk, h1, ⟨r, hr⟩, rfl, this⟩

/-- A token stands at a byte, or it stands further on. -/
theorem here_step (l : List UInt8) (i : Nat) (hi : i < l.length) (t : Tok) (us : List Tok) (h : Here l i (t :: us)) :
    ((t.line, t.col) = pl l i ∧ t.kind ≠ 0 ∧ 1 ≤ t.text.length ∧ (∃ r, l.drop i = t.text ++ r) ∧ Here l (i + 1) us) ∨ (¬ ((t.line, t.col) = pl l i ∧ t.kind ≠ 0) ∧ Here l (i + 1) (t :: us)) := by
  match us, h with
  | [], ⟨h1, h2, h3⟩ =>
    right
    exact ⟨fun ⟨_, b⟩ => b h1, h1, by omega, h3⟩
  | u :: us, ⟨o, h1, h2, h3, ⟨r, h4⟩, h5, h6⟩ =>
    by_cases he : o = i
    · subst he
      left
      exact ⟨h5, h2, h3, ⟨r, h4⟩, here_mono _ _ _ _ h6 (by omega)⟩
    · right
      have hlen := congrArg List.length h4
      simp at hlen
      refine ⟨fun ⟨a, _⟩ => ?_, o, by omega, h2, h3, ⟨r, h4⟩, h5, h6⟩
      exact pl_ne l i o (by omega) (by omega) (h5.symm.trans a)

theorem here_end (l : List UInt8) (us : List Tok) (h : Here l l.length us) : ∃ e, us = [e] ∧ e.kind = 0 ∧ (e.line, e.col) = pl l l.length := by
  match us, h with
  | [e], ⟨h1, h2, h3⟩ => exact ⟨e, rfl, h1, h3⟩
  | t :: u :: us, ⟨o, h1, h2, h3, ⟨r, h4⟩, h5, h6⟩ =>
    have hlen := congrArg List.length h4
    simp at hlen
    omega

theorem here_ne (l : List UInt8) (i : Nat) (us : List Tok) (h : Here l i us) : us ≠ [] := by
  rintro rfl
  exact h

theorem extract_mid (l : List UInt8) (i k : Nat) : (bstr l).extract i (i + k) = bstr ((l.drop i).take k) := by
  apply WideShapes.bytes_inj
  rw [Lib.extract_data, bstr_list, bstr_list]
  congr 1
  omega

theorem row_max {w : World} {base : Nat} {v : Value} {n : Nat} {xs : List Value} (h : w.ownsRow base 35 5 v n xs) : n ≤ 9223372036854775807 := by
  rcases h.2 with ⟨_, rfl⟩ | ⟨g, cap, cur, hv, hb, hg, h1, h2, _⟩
  · omega
  · simp only [maxLen] at h2
    omega

set_option maxRecDepth 100000 in
set_option maxHeartbeats 4000000 in
theorem walk (a0 : ByteArray) (w : World) (z0 : a0.size ≤ maxLen) (h : Errs w) (h' : Signs w) : Calls Tryd.prog 6 #[.string a0] w fun e w' => e = .returned (.bool true) ∧ Below w.heap.size w w' := by
  obtain ⟨l, rfl⟩ : ∃ l, a0 = bstr l := ⟨_, (bstr_of a0).symm⟩
  have s1 := bstr_size l
  have A := alive_any w h h'
  by_cases hl : l.length ≤ 8192
  · go_enter Tryd.func6, Tryd.ntmps6
    go_wp2_with fail
    refine A.mono ?_
    rintro e w1 ⟨rfl, b1⟩
    have C10 := lex_any l hl w1 (h.kept b1) (h'.kept b1)
    have b1 := hid b1
    go_wp2_with fail
    refine C10.mono ?_
    rintro e w5 ⟨r, rfl, ha, b5⟩
    have b05 := hid (Below.over b1.out b5)
    clear b5 C10 b1 A
    cases hx : lexL l with
    | error p =>
      rw [LexAns, hx] at ha
      subst ha
      have hv : faultV 3 p.1 p.2 = .agg #[.int .i64 3, .int .i64 p.1, .int .i64 p.2] := rfl
      rw [hv]
      clear hx
      have b06 := hid (b05.out.alloc b05.out.size (Obj.cells #[Value.int IntKind.i64 3, Value.int IntKind.i64 p.1, Value.int IntKind.i64 p.2] 26))
      go_wp2_with fail
      go_loop [7, 8] (fun va vi => va = .int .i64 0 ∧ vi = .int .i64 0) (fun _ vi => 0)
      case atStart => exact ⟨rfl, rfl⟩
      case round =>
        obtain ⟨rfl, rfl⟩ := hrel
        by_cases h0 : 0 < l.length
        · go_wp2
          go_ret
          exact ⟨rfl, b06.out⟩
        · go_wp2
          go_ret
          exact ⟨rfl, b06.out⟩
    | ok ts =>
      have hh : Here l 0 ts := here_of l (l.length + 1) 0 (by omega) ts (by rw [List.drop_zero, show pl l 0 = (1, 1) from rfl]; exact hx)
      have hn0 : 0 < ts.length := by
        have := here_ne _ _ _ hh
        exact List.length_pos_iff.2 this
      rw [LexAns, hx] at ha
      obtain ⟨v, rfl, own⟩ := ha
      obtain ⟨g, c, rfl, hg1, hg2⟩ := row_slice own hn0
      have R := rowAt_of own rfl
      have hmx := row_max own
      have hv : faultV 0 0 0 = .agg #[.int .i64 0, .int .i64 0, .int .i64 0] := rfl
      rw [hv]
      have R6 := hid (R.kept hg2 ((Below.refl _ _).alloc (Nat.le_refl _) (Obj.cells #[Value.int IntKind.i64 0, Value.int IntKind.i64 0, Value.int IntKind.i64 0] 26)))
      have b06 := hid (b05.out.alloc b05.out.size (Obj.cells #[Value.int IntKind.i64 0, Value.int IntKind.i64 0, Value.int IntKind.i64 0] 26))
      have hh := hid hh
      clear own hx hv R
      go_wp2_with fail
      generalize w5.alloc (Obj.cells #[Value.int IntKind.i64 0, Value.int IntKind.i64 0, Value.int IntKind.i64 0] 26) = w6 at *
      go_loop [5, 6, 7, 8] (fun vl vc va vi => ∃ (i a : Nat), vi = .int .i64 i ∧ va = .int .i64 a ∧ vl = .int .i64 (pl l i).1 ∧ vc = .int .i64 (pl l i).2 ∧ i ≤ l.length ∧ Hid (Here l i (ts.drop a))) (fun _ _ _ vi => l.length - (intOf vi).toNat)
      case atStart => exact ⟨0, 0, rfl, rfl, rfl, rfl, by omega, hid (by simpa using hh.out)⟩
      case round =>
        obtain ⟨i, a, rfl, rfl, rfl, rfl, hi, hr⟩ := hrel
        have ha : a < ts.length := by
          have := here_ne _ _ _ hr.out
          by_cases hq : a < ts.length
          · exact hq
          · exact absurd (List.drop_eq_nil_of_le (by omega)) this
        have hd : ts.drop a = ts[a] :: ts.drop (a + 1) := List.drop_eq_getElem_cons ha
        have hget : ts[a]? = some ts[a] := List.getElem?_eq_getElem ha
        obtain ⟨d0, d1, d2, d3, d4⟩ := row5 R6.out hget
        clear hget
        have hq := adv_le2 (1, 1) (l.take i)
        have hp1 : (pl l i).1 ≤ l.length + 1 := by unfold pl; have := List.length_take (i := i) (l := l); omega
        have hp2 : (pl l i).2 ≤ l.length + 1 := by unfold pl; have := List.length_take (i := i) (l := l); omega
        clear hq
        by_cases hlt : i < l.length
        · have hg := get_bstr l i hlt (by omega)
          have hps := pl_succ l i hlt
          have hst := here_step l i hlt ts[a] (ts.drop (a + 1)) (by rw [← hd]; exact hr.out)
          have hps := hid hps
          rcases hst with ⟨p1, p2, p3, ⟨r, p4⟩, p5⟩ | ⟨p1, p2⟩
          · have e1 : (ts[a]).line = (pl l i).1 := congrArg Prod.fst p1
            have e2 : (ts[a]).col = (pl l i).2 := congrArg Prod.snd p1
            rw [e1] at d3
            rw [e2] at d4
            have p5 := hid p5
            have kz : (((ts[a]).kind : Int) == 0) = false := by rw [beq_eq_false_iff_ne]; omega
            have hlen := congrArg List.length p4
            simp at hlen
            have x1 : (bstr l).extract i (i + (ts[a]).text.length) = bstr (ts[a]).text := by rw [extract_mid, p4, List.take_left]
            have s3 := bstr_size (ts[a]).text
            have tt : ((bstr (ts[a]).text).toList == (bstr (ts[a]).text).toList) = true := by simp
            have te : ((bstr (ts[a]).text).toList == []) = false := by
              rw [toList_bstr]
              cases hq : (ts[a]).text
              · rw [hq] at p3; simp at p3
              · rfl
            clear p1 p2 p4 e1 e2 hd hr
            generalize pl l i = p at *
            by_cases hc : l[i] = 10
            · have t1 : (((l[i]).toNat : Int) == 10) = true := by rw [hc]; rfl
              have N : Hid (pl l (i + 1) = (p.1 + 1, 1)) := hid (by rw [hps.out, adv1, if_pos hc])
              clear hc hps
              go_wp2
              go_round
              case rel => exact ⟨i + 1, a + 1, by go_num, by go_num, by rw [N.out]; go_num, by rw [N.out]; rfl, by omega, hid p5.out⟩
              case measure => simp [intOf]; omega
            · have t1 : (((l[i]).toNat : Int) == 10) = false := rune_ne rfl hc
              have N : Hid (pl l (i + 1) = (p.1, p.2 + 1)) := hid (by rw [hps.out, adv1, if_neg hc])
              clear hc hps
              go_wp2
              go_round
              case rel => exact ⟨i + 1, a + 1, by go_num, by go_num, by rw [N.out], by rw [N.out]; go_num, by omega, hid p5.out⟩
              case measure => simp [intOf]; omega
          · have p2 := hid (show Here l (i + 1) (ts.drop a) by rw [hd]; exact p2)
            clear hd hr
            by_cases q1 : (ts[a]).line = (pl l i).1
            · by_cases q2 : (ts[a]).col = (pl l i).2
              · have q3 : (ts[a]).kind = 0 := by
                  by_cases q : (ts[a]).kind = 0
                  · exact q
                  · exact absurd ⟨by rw [q1, q2], q⟩ p1
                have kz : (((ts[a]).kind : Int) == 0) = true := by rw [q3]; rfl
                rw [q1] at d3
                rw [q2] at d4
                clear p1 q1 q2 q3
                generalize pl l i = p at *
                by_cases hc : l[i] = 10
                · have t1 : (((l[i]).toNat : Int) == 10) = true := by rw [hc]; rfl
                  have N : Hid (pl l (i + 1) = (p.1 + 1, 1)) := hid (by rw [hps.out, adv1, if_pos hc])
                  clear hc hps
                  go_wp2
                  go_round
                  case rel => exact ⟨i + 1, a, by go_num, by go_num, by rw [N.out]; go_num, by rw [N.out]; rfl, by omega, hid p2.out⟩
                  case measure => simp [intOf]; omega
                · have t1 : (((l[i]).toNat : Int) == 10) = false := rune_ne rfl hc
                  have N : Hid (pl l (i + 1) = (p.1, p.2 + 1)) := hid (by rw [hps.out, adv1, if_neg hc])
                  clear hc hps
                  go_wp2
                  go_round
                  case rel => exact ⟨i + 1, a, by go_num, by go_num, by rw [N.out], by rw [N.out]; go_num, by omega, hid p2.out⟩
                  case measure => simp [intOf]; omega
              · have cz : (((ts[a]).col : Int) == ((pl l i).2 : Int)) = false := by rw [beq_eq_false_iff_ne]; omega
                rw [q1] at d3
                clear p1 q1 q2
                generalize pl l i = p at *
                by_cases hc : l[i] = 10
                · have t1 : (((l[i]).toNat : Int) == 10) = true := by rw [hc]; rfl
                  have N : Hid (pl l (i + 1) = (p.1 + 1, 1)) := hid (by rw [hps.out, adv1, if_pos hc])
                  clear hc hps
                  go_wp2
                  go_round
                  case rel => exact ⟨i + 1, a, by go_num, by go_num, by rw [N.out]; go_num, by rw [N.out]; rfl, by omega, hid p2.out⟩
                  case measure => simp [intOf]; omega
                · have t1 : (((l[i]).toNat : Int) == 10) = false := rune_ne rfl hc
                  have N : Hid (pl l (i + 1) = (p.1, p.2 + 1)) := hid (by rw [hps.out, adv1, if_neg hc])
                  clear hc hps
                  go_wp2
                  go_round
                  case rel => exact ⟨i + 1, a, by go_num, by go_num, by rw [N.out], by rw [N.out]; go_num, by omega, hid p2.out⟩
                  case measure => simp [intOf]; omega
            · have lz : (((ts[a]).line : Int) == ((pl l i).1 : Int)) = false := by rw [beq_eq_false_iff_ne]; omega
              clear p1 q1
              generalize pl l i = p at *
              by_cases hc : l[i] = 10
              · have t1 : (((l[i]).toNat : Int) == 10) = true := by rw [hc]; rfl
                have N : Hid (pl l (i + 1) = (p.1 + 1, 1)) := hid (by rw [hps.out, adv1, if_pos hc])
                clear hc hps
                go_wp2
                go_round
                case rel => exact ⟨i + 1, a, by go_num, by go_num, by rw [N.out]; go_num, by rw [N.out]; rfl, by omega, hid p2.out⟩
                case measure => simp [intOf]; omega
              · have t1 : (((l[i]).toNat : Int) == 10) = false := rune_ne rfl hc
                have N : Hid (pl l (i + 1) = (p.1, p.2 + 1)) := hid (by rw [hps.out, adv1, if_neg hc])
                clear hc hps
                go_wp2
                go_round
                case rel => exact ⟨i + 1, a, by go_num, by go_num, by rw [N.out], by rw [N.out]; go_num, by omega, hid p2.out⟩
                case measure => simp [intOf]; omega
        · obtain rfl : i = l.length := by omega
          obtain ⟨e, he, e1, e2⟩ := here_end l _ hr.out
          rw [hd] at he
          simp only [List.cons.injEq] at he
          obtain ⟨he1, he2⟩ := he
          have hlast : ts.length = a + 1 := by
            have := congrArg List.length he2
            simp at this
            omega
          rw [he1] at d0 d3 d4
          have k1 : e.line = (pl l l.length).1 := congrArg Prod.fst e2
          have k2 : e.col = (pl l l.length).2 := congrArg Prod.snd e2
          rw [e1] at d0
          rw [k1] at d3
          rw [k2] at d4
          have qa : ((a : Int) == (ts.length : Int) - 1) = true := by rw [beq_iff_eq]; omega
          have qn : ((ts.length : Int) == 0) = false := by rw [beq_eq_false_iff_ne]; omega
          have hlast := hid hlast
          clear hd hr he1 he2 e1 e2 k1 k2 d1 d2
          generalize pl l l.length = p at *
          go_wp2
          go_ret
          exact ⟨rfl, b06.out⟩
  · go_enter Tryd.func6, Tryd.ntmps6
    go_wp2_with (go_at_call 9; refine A.mono ?_; rintro e w1 ⟨rfl, b1⟩)
    go_ret
    exact ⟨rfl, by assumption⟩
end Go.Proofs.YtdankjkmgcclhaaDoor.lexPlaces
