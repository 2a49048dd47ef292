/- The walk of the law LexJoins. -/
import Derived.Test.YtdankjkmgcclhaaDoorLexNotesW
import Derived.Test.YtdankjkmgcclhaaDoorLexPlacesW
import Derived.Deep.QuietTactic
import Derived.BigQuiet
import Derived.Deep.CutBlock
import Derived.Deep.CutRange
import Derived.Deep.DeepCutAuto
namespace Go.Proofs.YtdankjkmgcclhaaDoor.lexJoins
open Go.ChangeShapes Go.WideShapes Go.ChangeAt Go.RowKit
set_option linter.unusedVariables false

open lexNotes (lex_gap)

theorem pre_join (c : UInt8) (r b : List UInt8) : preB [47, 47] (c :: (r ++ 10 :: b)) = preB [47, 47] (c :: r) := by
  cases r with
  | nil =>
    have h1 : preB [47, 47] (c :: 10 :: b) = false := by
      cases h : preB [47, 47] (c :: 10 :: b)
      · rfl
      · obtain ⟨s, hs⟩ := (preB_iff _ _).1 h
        simp at hs
    have h2 : preB [47, 47] [c] = false := by
      cases h : preB [47, 47] [c]
      · rfl
      · obtain ⟨s, hs⟩ := (preB_iff _ _).1 h
        simp at hs
    rw [List.nil_append, h1, h2]
  | cons d r => rfl

theorem gap_join (nt : Bool) (l b : List UInt8) : gapN nt (l ++ 10 :: b) = if gapN nt l = l.length then l.length + 1 + gapN false b else gapN nt l := by
  induction l generalizing nt with
  | nil => simp [gapN]; omega
  | cons c r ih =>
    by_cases h1 : c = 10
    · subst h1
      rw [List.cons_append, gap_nl, gap_nl, ih false]
      simp only [List.length_cons, Nat.add_right_cancel_iff]
      split <;> omega
    · by_cases h2 : nt = true ∨ c = 32 ∨ c = 9 ∨ c = 13
      · have e : ∀ r', gapN nt (c :: r') = gapN nt r' + 1 := fun r' => by rw [gapN, if_neg h1, if_pos h2]
        rw [List.cons_append, e, e, ih nt]
        simp only [List.length_cons, Nat.add_right_cancel_iff]
        split <;> omega
      · have hb : nt = false := by cases nt; rfl; exact absurd (Or.inl rfl) h2
        subst hb
        have h3 : ¬ (c = 32 ∨ c = 9 ∨ c = 13) := fun e => h2 (Or.inr e)
        have hpj := pre_join c r b
        cases hp : preB [47, 47] (c :: r)
        · rw [hp] at hpj
          rw [List.cons_append, gap_stop c _ h1 h3 hpj, gap_stop c r h1 h3 hp]
          simp
        · rw [hp] at hpj
          rw [List.cons_append, gap_note c _ hpj, gap_note c r hp, ih true]
          simp only [List.length_cons, Nat.add_right_cancel_iff]
          split <;> omega

theorem while_join (p : UInt8 → Bool) (l b : List UInt8) (s : UInt8) (hs : p s = false) : (l ++ s :: b).takeWhile p = l.takeWhile p := by
  induction l with
  | nil => simp [hs]
  | cons c l ih => simp only [List.cons_append, List.takeWhile_cons, ih]

theorem preB_join (x l b : List UInt8) (hx : 10 ∉ x) : preB x (l ++ 10 :: b) = preB x l := by
  by_cases h : x.length ≤ l.length
  · unfold preB
    rw [List.take_append_of_le_length h]
  · have h1 : preB x l = false := by
      cases hq : preB x l
      · rfl
      · obtain ⟨s, hs⟩ := (preB_iff _ _).1 hq
        have := congrArg List.length hs
        simp at this
        omega
    rw [h1]
    cases hq : preB x (l ++ 10 :: b)
    · rfl
    · obtain ⟨s, hs⟩ := (preB_iff _ _).1 hq
      have e1 : (l ++ 10 :: b)[l.length]? = some 10 := by simp
      rw [hs, List.getElem?_append_left (by omega)] at e1
      exact absurd (List.mem_of_getElem? e1) hx

theorem first_join (l b : List UInt8) (h : l ≠ []) : firstT (l ++ 10 :: b) = firstT l := by
  cases l with
  | nil => exact absurd rfl h
  | cons c r =>
    have hw : ∀ m, (m ++ 10 :: b).takeWhile isPart = m.takeWhile isPart := fun m => while_join isPart m b 10 (by decide)
    have hs : signAt (c :: (r ++ 10 :: b)) = signAt (c :: r) := by
      have hall : ∀ x ∈ signsL, 10 ∉ x := by decide
      unfold signAt
      have : ∀ (xs : List (List UInt8)), (∀ x ∈ xs, 10 ∉ x) → xs.find? (fun x => preB x (c :: (r ++ 10 :: b))) = xs.find? (fun x => preB x (c :: r)) := by
        intro xs hxs
        induction xs with
        | nil => rfl
        | cons y ys ih =>
          have := preB_join y (c :: r) b (hxs y (by simp))
          rw [List.cons_append] at this
          simp only [List.find?_cons, this, ih (fun x hx => hxs x (by simp [hx]))]
      exact this signsL hall
    have h1 := hw r
    have h2 := hw (c :: r)
    rw [List.cons_append] at h2
    have h3 : runOf isPart (c :: (r ++ 10 :: b)) = runOf isPart (c :: r) := by unfold runOf; rw [h2]
    simp only [List.cons_append, firstT, h1, h2, h3, hs]

theorem lex_join (f : Nat) (l b : List UInt8) (p : Nat × Nat) (hf : l.length < f) :
    lexF ((l ++ 10 :: b).length + 1) (l ++ 10 :: b) p = match lexF f l p with
      | .ok ts => preT ts.dropLast (lexF (b.length + 1) b ((adv p l).1 + 1, 1))
      | .error q => .error q := by
  induction f generalizing l p with
  | zero => omega
  | succ f ih =>
    have hg := gap_le false l
    have hj := gap_join false l b
    by_cases he : gapN false l = l.length
    · rw [if_pos he] at hj
      have e1 : lexF (f + 1) l p = .ok [⟨0, [], 0, (adv p l).1, (adv p l).2⟩] := by
        rw [lexF, he]
        simp only [List.drop_length, List.take_length]
        rfl
      rw [e1]
      have e2 : l ++ 10 :: b = (l ++ [10]) ++ b := by simp
      rw [e2] at hj ⊢
      rw [lex_gap (l ++ [10]) b p (by rw [hj]; simp), adv_app]
      simp only [List.dropLast_singleton, preT_nil]
      rfl
    · rw [if_neg he] at hj
      have hne : l.drop (gapN false l) ≠ [] := by
        intro hq
        have := congrArg List.length hq
        simp at this
        omega
      have e1 : (l ++ 10 :: b).drop (gapN false l) = l.drop (gapN false l) ++ 10 :: b := List.drop_append_of_le_length (by omega)
      have e2 : (l ++ 10 :: b).take (gapN false l) = l.take (gapN false l) := List.take_append_of_le_length (by omega)
      rw [lex_step, lexF, hj, e1, e2, first_join _ b hne]
      cases hft : firstT (l.drop (gapN false l)) with
      | none => rfl
      | some x =>
        obtain ⟨k, t, n⟩ := x
        simp only
        rcases first_spec hft with ⟨_, h0, _⟩ | ⟨hk, h1, ⟨r, hr⟩, _⟩
        · exact absurd h0 hne
        · rw [if_neg hk, if_neg hk, hr]
          have hl := congrArg List.length hr
          simp at hl
          have e3 : (t ++ r ++ 10 :: b).drop t.length = r ++ 10 :: b := by simp
          have e4 : (t ++ r).drop t.length = r := by simp
          rw [e3, e4, ih r _ (by omega)]
          have e5 : adv (adv (adv p (l.take (gapN false l))) t) r = adv p l := by
            rw [← adv_app, ← adv_app]
            congr 1
            rw [← hr, List.take_append_drop]
          rw [e5]
          cases hq : lexF f r (adv (adv p (l.take (gapN false l))) t) with
          | error q => rfl
          | ok us =>
            obtain ⟨xs, e, rfl, _⟩ := lex_toks _ _ _ _ hq
            have e6 : ∀ y : Tok, [y] ++ (xs ++ [e]).dropLast = (y :: (xs ++ [e])).dropLast := fun y => by
              rw [← List.cons_append, List.dropLast_concat, List.dropLast_concat]; rfl
            simp only [preT_app, e6]
            rfl

/-- A token further down. -/
def shiftT (d : Nat) (t : Tok) : Tok := ⟨t.kind, t.text, t.n, d + t.line, t.col⟩

theorem adv_shift (d : Nat) (p : Nat × Nat) (l : List UInt8) : adv (d + p.1, p.2) l = (d + (adv p l).1, (adv p l).2) := by
  induction l generalizing p with
  | nil => rfl
  | cons c l ih =>
    rw [adv_cons, adv_cons]
    have : adv1 (d + p.1, p.2) c = (d + (adv1 p c).1, (adv1 p c).2) := by
      unfold adv1
      split <;> simp <;> omega
    rw [this, ih]

theorem lex_shift (d : Nat) (f : Nat) (l : List UInt8) (p : Nat × Nat) : lexF f l (d + p.1, p.2) = match lexF f l p with
    | .ok ts => .ok (ts.map (shiftT d))
    | .error q => .error (d + q.1, q.2) := by
  induction f generalizing l p with
  | zero => rfl
  | succ f ih =>
    rw [lexF, lexF, adv_shift]
    cases hft : firstT (l.drop (gapN false l)) with
    | none => rfl
    | some x =>
      obtain ⟨k, t, n⟩ := x
      simp only
      by_cases hk : k = 0
      · rw [if_pos hk, if_pos hk]; rfl
      · rw [if_neg hk, if_neg hk, adv_shift, ih]
        cases lexF f ((l.drop (gapN false l)).drop t.length) (adv (adv p (l.take (gapN false l))) t) with
        | error q => rfl
        | ok us => rfl

theorem end_place (f : Nat) (l : List UInt8) (p : Nat × Nat) (ts : List Tok) (h : lexF f l p = .ok ts) : ∃ e, ts.getLast? = some e ∧ e.line = (adv p l).1 := by
  induction f generalizing l p ts with
  | zero => cases h
  | succ f ih =>
    rw [lexF] at h
    cases hf : firstT (l.drop (gapN false l)) with
    | none => rw [hf] at h; cases h
    | some x =>
      obtain ⟨k, t, n⟩ := x
      rw [hf] at h
      simp only at h
      by_cases hk : k = 0
      · rw [if_pos hk] at h
        cases h
        rcases first_spec hf with ⟨_, h1, _, _⟩ | ⟨h0, _⟩
        · have hg := gap_le false l
          have : gapN false l = l.length := by
            have := congrArg List.length h1
            simp at this
            omega
          rw [this, List.take_length]
          exact ⟨_, rfl, rfl⟩
        · exact absurd hk h0
      · rw [if_neg hk] at h
        rcases first_spec hf with ⟨h0, _⟩ | ⟨_, h1, ⟨r, hr⟩, _⟩
        · exact absurd h0 hk
        · have e4 : (l.drop (gapN false l)).drop t.length = r := by rw [hr]; simp
          rw [e4] at h
          cases hq : lexF f r (adv (adv p (l.take (gapN false l))) t) with
          | error e => rw [hq] at h; cases h
          | ok us =>
            rw [hq] at h
            cases h
            obtain ⟨e, h2, h3⟩ := ih _ _ _ hq
            refine ⟨e, by rw [List.getLast?_append, h2]; rfl, ?_⟩
            rw [h3, ← adv_app, ← adv_app]
            congr 2
            rw [← hr, List.take_append_drop]

/-- The tokens of two texts with a line feed between. -/
theorem joins (a b : List UInt8) : lexL (a ++ 10 :: b) = match lexL a with
    | .error q => .error q
    | .ok ts => match lexL b with
      | .error q => .error ((adv (1, 1) a).1 + q.1, q.2)
      | .ok us => .ok (ts.dropLast ++ us.map (shiftT (adv (1, 1) a).1)) := by
  rw [lexL, lex_join (a.length + 1) a b (1, 1) (by omega)]
  show (match lexL a with
      | .ok ts => preT ts.dropLast (lexF (b.length + 1) b ((adv (1, 1) a).1 + 1, 1))
      | .error q => .error q) = _
  cases lexL a with
  | error q => rfl
  | ok ts =>
    have := lex_shift (adv (1, 1) a).1 (b.length + 1) b (1, 1)
    simp only at this ⊢
    rw [this]
    show preT ts.dropLast (match lexL b with
        | .ok ts => .ok (ts.map (shiftT _))
        | .error q => .error (_ + q.1, q.2)) = _
    cases lexL b <;> rfl

theorem line_le (f : Nat) (l : List UInt8) (p : Nat × Nat) (ts : List Tok) (h : lexF f l p = .ok ts) : ∀ t ∈ ts, t.line ≤ p.1 + l.length := by
  induction f generalizing l p ts with
  | zero => cases h
  | succ f ih =>
    rw [lexF] at h
    have hg := gap_le false l
    have hq := (adv_le2 p (l.take (gapN false l))).1
    rw [List.length_take, Nat.min_eq_left hg] at hq
    cases hf : firstT (l.drop (gapN false l)) with
    | none => rw [hf] at h; cases h
    | some x =>
      obtain ⟨k, t, n⟩ := x
      rw [hf] at h
      simp only at h
      by_cases hk : k = 0
      · rw [if_pos hk] at h
        cases h
        intro t ht
        simp only [List.mem_singleton] at ht
        subst ht
        simp only
        omega
      · rw [if_neg hk] at h
        rcases first_spec hf with ⟨h0, _⟩ | ⟨_, h1, ⟨r, hr⟩, _⟩
        · exact absurd h0 hk
        · have e4 : (l.drop (gapN false l)).drop t.length = r := by rw [hr]; simp
          have hl := congrArg List.length hr
          simp at hl
          have hq2 := (adv_le2 (adv p (l.take (gapN false l))) t).1
          rw [e4] at h
          cases hq : lexF f r (adv (adv p (l.take (gapN false l))) t) with
          | error e => rw [hq] at h; cases h
          | ok us =>
            rw [hq] at h
            cases h
            have := ih _ _ _ hq
            intro y hy
            simp only [List.cons_append, List.nil_append, List.mem_cons] at hy
            rcases hy with rfl | hy
            · simp only
              omega
            · have := this y hy
              omega

theorem ans_form {l : List UInt8} {base : Nat} {w : World} {r : Value} (h : LexAns l base w r) : ∃ (v : Value) (x y z : Nat), r = .tuple #[v, .agg #[.int .i64 x, .int .i64 y, .int .i64 z]] := by
  unfold LexAns at h
  cases hx : lexL l with
  | error p => rw [hx] at h; exact ⟨_, 3, p.1, p.2, h⟩
  | ok ts => rw [hx] at h; obtain ⟨v, h, _⟩ := h; exact ⟨v, 0, 0, 0, h⟩

theorem ans_err {l : List UInt8} {base : Nat} {w : World} {v : Value} {x y z : Nat} {q : Nat × Nat} (h : LexAns l base w (.tuple #[v, .agg #[.int .i64 x, .int .i64 y, .int .i64 z]])) (hx : lexL l = .error q) : v = .slice none 0 0 ∧ x = 3 ∧ y = q.1 ∧ z = q.2 := by
  rw [LexAns, hx] at h
  simp only [faultV, Value.tuple.injEq, Array.mk.injEq, List.cons.injEq, Value.agg.injEq, Value.int.injEq, and_true, true_and] at h
  obtain ⟨h1, h2, h3, h4⟩ := h
  exact ⟨h1, by omega, by omega, by omega⟩
theorem ans_ok {l : List UInt8} {base : Nat} {w : World} {v : Value} {x y z : Nat} {ts : List Tok} (h : LexAns l base w (.tuple #[v, .agg #[.int .i64 x, .int .i64 y, .int .i64 z]])) (hx : lexL l = .ok ts) : (x = 0 ∧ y = 0 ∧ z = 0) ∧ w.ownsRow base 35 5 v ts.length (cellsT ts) := by
  rw [LexAns, hx] at h
  obtain ⟨v', h, hown⟩ := h
  simp only [faultV, Value.tuple.injEq, Array.mk.injEq, List.cons.injEq, Value.agg.injEq, Value.int.injEq, and_true, true_and] at h
  obtain ⟨h1, h2, h3, h4⟩ := h
  subst h1
  exact ⟨⟨by omega, by omega, by omega⟩, hown⟩

theorem blk3 {w w' : World} {b : Nat} {x0 x1 x2 : Value} (k : Blk w b #[x0, x1, x2] 26) (h : Below w.heap.size w w') :
    w'.cell? ⟨b, 0, none⟩ = some x0 ∧ w'.cell? ⟨b, 1, none⟩ = some x1 ∧ w'.cell? ⟨b, 2, none⟩ = some x2 :=
  ⟨(k.kept h).cell 0, (k.kept h).cell 1, (k.kept h).cell 2⟩

set_option maxRecDepth 100000 in
set_option maxHeartbeats 4000000 in
theorem walk (a0 a1 : ByteArray) (w : World) (z0 : a0.size ≤ maxLen) (z1 : a1.size ≤ maxLen) (h : Errs w) (h' : Signs w) : Calls Tryd.prog 7 #[.string a0, .string a1] w fun e w' => e = .returned (.bool true) ∧ Below w.heap.size w w' := by
  obtain ⟨a, rfl⟩ : ∃ l, a0 = bstr l := ⟨_, (bstr_of a0).symm⟩
  obtain ⟨b, rfl⟩ : ∃ l, a1 = bstr l := ⟨_, (bstr_of a1).symm⟩
  have s1 := bstr_size a
  have s2 := bstr_size b
  have A := alive_any w h h'
  by_cases hl : a.length ≤ 4096 ∧ b.length < 4096
  · obtain ⟨hl1, hl2⟩ := hl
    have cat : bstr a ++ { data := #[10] } ++ bstr b = bstr (a ++ 10 :: b) := by
      show bstr a ++ bstr [10] ++ bstr b = _
      rw [bstr_app, bstr_app]
      simp
    go_enter Tryd.func7, Tryd.ntmps7
    go_wp2_with fail
    refine A.mono ?_
    rintro e w1 ⟨rfl, b1⟩
    have CA := lex_any a (by omega) w1 (h.kept b1) (h'.kept b1)
    have b1 := hid b1
    clear A
    go_wp2_with fail
    refine CA.mono ?_
    rintro e w2 ⟨ra, rfl, ha, b2⟩
    have b2 := hid b2
    obtain ⟨va, x0, x1, x2, rfl⟩ := ans_form ha
    have b02 := hid (Below.over b1.out b2.out)
    have CB := fun o => lex_any b (by omega) (w2.alloc o) (h.kept (b02.out.alloc b02.out.size o)) (h'.kept (b02.out.alloc b02.out.size o))
    have ha := hid ha
    clear CA
    go_wp2_with fail
    refine (CB _).mono ?_
    rintro e w3 ⟨rb, rfl, hb, b3⟩
    have b3 := hid b3
    obtain ⟨vb, y0, y1, y2, rfl⟩ := ans_form hb
    have b03 := hid (Below.over (b02.out.alloc b02.out.size _) b3.out)
    have CJ := fun o => lex_any (a ++ 10 :: b) (by simp; omega) (w3.alloc o) (h.kept (b03.out.alloc b03.out.size o)) (h'.kept (b03.out.alloc b03.out.size o))
    have hb := hid hb
    clear CB
    go_wp2_with fail
    refine (CJ _).mono ?_
    rintro e w4 ⟨rj, rfl, hj, b4⟩
    have b4 := hid b4
    have b04 := hid (Below.over (b03.out.alloc b03.out.size _) b4.out)
    have hj := hid hj
    clear CJ cat
    have jn := hid (joins a b)
    obtain ⟨vj, j0, j1, j2, rfl⟩ := ans_form hj.out
    have kA : ∀ o, Below (w2.alloc (.cells #[.int .i64 x0, .int .i64 x1, .int .i64 x2] 26)).heap.size (w2.alloc (.cells #[.int .i64 x0, .int .i64 x1, .int .i64 x2] 26)) (w4.alloc o) := fun o => Below.over (b3.out.alloc b3.out.size _) (b4.out.alloc b4.out.size o)
    have kB : ∀ o, Below (w3.alloc (.cells #[.int .i64 y0, .int .i64 y1, .int .i64 y2] 26)).heap.size (w3.alloc (.cells #[.int .i64 y0, .int .i64 y1, .int .i64 y2] 26)) (w4.alloc o) := fun o => b4.out.alloc b4.out.size o
    have eA := fun o => blk3 (Blk.new w2 _ 26) (kA o)
    have eB := fun o => blk3 (Blk.new w3 _ 26) (kB o)
    have b05 := hid (fun o => b04.out.alloc b04.out.size o)
    cases hx : lexL a with
    | error q =>
      obtain ⟨rfl, rfl, rfl, rfl⟩ := ans_err ha.out hx
      have hjx : lexL (a ++ 10 :: b) = .error q := by rw [jn.out, hx]
      obtain ⟨rfl, rfl, rfl, rfl⟩ := ans_err hj.out hjx
      have c0 := fun o => (eA o).1
      have c1 := fun o => (eA o).2.1
      have c2 := fun o => (eA o).2.2
      clear eA eB kA kB hx hjx jn ha hb hj
      go_wp2
      go_ret
      exact ⟨rfl, b05.out _⟩
    | ok ts =>
      obtain ⟨⟨rfl, rfl, rfl⟩, owna⟩ := ans_ok ha.out hx
      cases hy : lexL b with
      | error q =>
        obtain ⟨rfl, rfl, rfl, rfl⟩ := ans_err hb.out hy
        have hjx : lexL (a ++ 10 :: b) = .error ((adv (1, 1) a).1 + q.1, q.2) := by rw [jn.out, hx, hy]
        obtain ⟨rfl, rfl, rfl, rfl⟩ := ans_err hj.out hjx
        have c0 := fun o => (eA o).1
        have c1 := fun o => (eA o).2.1
        have c2 := fun o => (eA o).2.2
        have d0 := fun o => (eB o).1
        have d1 := fun o => (eB o).2.1
        have d2 := fun o => (eB o).2.2
        clear eA eB kA kB hx hy hjx jn ha hb hj owna
        go_wp2
        go_ret
        exact ⟨rfl, b05.out _⟩
      | ok us =>
        obtain ⟨⟨rfl, rfl, rfl⟩, ownb⟩ := ans_ok hb.out hy
        have hjx : lexL (a ++ 10 :: b) = .ok (ts.dropLast ++ us.map (shiftT (adv (1, 1) a).1)) := by rw [jn.out, hx, hy]
        obtain ⟨⟨rfl, rfl, rfl⟩, ownj⟩ := ans_ok hj.out hjx
        obtain ⟨xs, e, rfl, _⟩ := lex_toks _ _ _ _ hx
        obtain ⟨e', he1, he2⟩ := end_place _ _ _ _ hx
        obtain rfl : e = e' := by simpa using he1
        have ll := hid (line_le _ _ _ _ hy)
        have el : e.line ≤ 5000 := by have := line_le _ _ _ _ hx e (by simp); simp only at this; omega
        have hu1 : 0 < us.length := by obtain ⟨xs, e, rfl, _⟩ := lex_toks _ _ _ _ hy; simp
        obtain ⟨g1, c1, rfl, g1a, g1b⟩ := row_slice owna (by simp)
        obtain ⟨g2, c2, rfl, g2a, g2b⟩ := row_slice ownb hu1
        rw [List.dropLast_concat] at ownj
        obtain ⟨g3, c3, rfl, g3a, g3b⟩ := row_slice ownj (by simp; omega)
        have mx : xs.length + us.length ≤ 9223372036854775807 := by have := lexPlaces.row_max ownj; simpa using this
        have F4 : ∀ o, Below w4.heap.size w4 (w4.alloc o) := fun o => (Below.refl _ _).alloc (Nat.le_refl _) o
        have g1c : g1 < (w2.alloc (.cells #[.int .i64 (0 : Nat), .int .i64 (0 : Nat), .int .i64 (0 : Nat)] 26)).heap.size := by rw [World.size_alloc]; omega
        have g2c : g2 < (w3.alloc (.cells #[.int .i64 (0 : Nat), .int .i64 (0 : Nat), .int .i64 (0 : Nat)] 26)).heap.size := by rw [World.size_alloc]; omega
        have R1 : ∀ o, RowAt (w4.alloc o) g1 (xs ++ [e]) := fun o => ((rowAt_of owna rfl).kept g1b ((Below.refl _ _).alloc (Nat.le_refl _) _)).kept g1c (kA o)
        have R2 : ∀ o, RowAt (w4.alloc o) g2 us := fun o => ((rowAt_of ownb rfl).kept g2b ((Below.refl _ _).alloc (Nat.le_refl _) _)).kept g2c (kB o)
        have R3 : ∀ o, RowAt (w4.alloc o) g3 (xs ++ us.map (shiftT (adv (1, 1) a).1)) := fun o => (rowAt_of ownj rfl).kept g3b (F4 o)
        have h1 : ∀ o, g1 < (w4.alloc o).heap.size := fun o => Nat.lt_of_lt_of_le g1c (kA o).size
        have h2 : ∀ o, g2 < (w4.alloc o).heap.size := fun o => Nat.lt_of_lt_of_le g2c (kB o).size
        have h3 : ∀ o, g3 < (w4.alloc o).heap.size := fun o => Nat.lt_of_lt_of_le g3b (F4 o).size
        rw [← he2] at R3
        have R1 := hid R1
        have R2 := hid R2
        have R3 := hid R3
        have h1 := hid h1
        have h2 := hid h2
        have h3 := hid h3
        have c0 := fun o => (eA o).1
        have c1' := fun o => (eA o).2.1
        have c2' := fun o => (eA o).2.2
        have d0 := fun o => (eB o).1
        have d1 := fun o => (eB o).2.1
        have d2 := fun o => (eB o).2.2
        have dn : ∀ o, (w4.alloc o).cell? ⟨g1, xs.length * 5 + 3, none⟩ = some (.int .i64 e.line) := fun o => (row5 (R1.out o) (k := xs.length) (t := e) (by simp)).2.2.2.1
        clear eA eB kA kB hx hy hjx jn ha hb hj owna ownb ownj he1 he2 F4 b2 b3 b4
        have qn : (((xs.length : Int) + 1) == 0) = false := by rw [beq_eq_false_iff_ne]; omega
        go_wp2_with fail
        have R1 := hid (R1.out (.cells #[.int .i64 0, .int .i64 0, .int .i64 0] 26))
        have R2 := hid (R2.out (.cells #[.int .i64 0, .int .i64 0, .int .i64 0] 26))
        have R3 := hid (R3.out (.cells #[.int .i64 0, .int .i64 0, .int .i64 0] 26))
        have h1 := h1.out (.cells #[.int .i64 0, .int .i64 0, .int .i64 0] 26)
        have h2 := h2.out (.cells #[.int .i64 0, .int .i64 0, .int .i64 0] 26)
        have h3 := h3.out (.cells #[.int .i64 0, .int .i64 0, .int .i64 0] 26)
        have b05 := hid (b05.out (.cells #[.int .i64 0, .int .i64 0, .int .i64 0] 26))
        clear c0 c1' c2' d0 d1 d2 dn
        generalize w4.alloc (.cells #[.int .i64 0, .int .i64 0, .int .i64 0] 26) = w8 at *
        go_loopw [97] (fun vi wx => ∃ k : Nat, vi = .int .i64 k ∧ k ≤ xs.length + us.length ∧ Hid (Below w8.heap.size w8 wx)) (fun vi _ => xs.length + us.length - (intOf vi).toNat)
        case atStart => exact ⟨0, rfl, by omega, hid (Below.refl _ _)⟩
        case round =>
          obtain ⟨k, rfl, hk, hbx⟩ := hrel
          have hsz := hbx.out.size
          have gw1 : g1 < wr.heap.size := by omega
          have gw2 : g2 < wr.heap.size := by omega
          by_cases hlt : k < xs.length
          · have hg1 : (xs ++ [e])[k]? = some xs[k] := by rw [List.getElem?_append_left hlt, List.getElem?_eq_getElem hlt]
            have hg3 : (xs ++ us.map (shiftT e.line))[k]? = some xs[k] := by rw [List.getElem?_append_left hlt, List.getElem?_eq_getElem hlt]
            obtain ⟨d0, d1, d2, d3, d4⟩ := row5 (R3.out.kept h3 hbx.out) hg3
            have RX := fun o1 o2 => row5 ((R1.out.kept h1 hbx.out).kept gw1 ((((Below.refl _ _).alloc (Nat.le_refl _) o1)).alloc (by rw [World.size_alloc]; omega) o2)) hg1
            have f0 := fun o1 o2 => (RX o1 o2).1
            have f1 := fun o1 o2 => (RX o1 o2).2.1
            have f2 := fun o1 o2 => (RX o1 o2).2.2.1
            have f3 := fun o1 o2 => (RX o1 o2).2.2.2.1
            have f4 := fun o1 o2 => (RX o1 o2).2.2.2.2
            have tt : ((bstr (xs[k]).text).toList == (bstr (xs[k]).text).toList) = true := by simp
            clear RX hg1 hg3
            go_wp2
            go_roundw
            case rel => exact ⟨k + 1, by go_num, by omega, hid ((hbx.out.alloc hbx.out.size _).alloc (by rw [World.size_alloc]; omega) _)⟩
            case measure => simp [intOf]; omega
          · by_cases hlt2 : k < xs.length + us.length
            · obtain ⟨j, hj⟩ : ∃ j, k = xs.length + j := ⟨k - xs.length, by omega⟩
              have hju : j < us.length := by omega
              have hg2 : us[j]? = some us[j] := List.getElem?_eq_getElem hju
              have hg3 : (xs ++ us.map (shiftT e.line))[k]? = some (shiftT e.line us[j]) := by
                rw [List.getElem?_append_right (by omega), show k - xs.length = j by omega, List.getElem?_map, hg2]; rfl
              obtain ⟨p0, p1, p2, p3, p4⟩ := row5 (R3.out.kept h3 hbx.out) hg3
              have d0 : wr.cell? ⟨g3, k * 5, none⟩ = some (.int .i64 (us[j]).kind) := p0
              have d1 : wr.cell? ⟨g3, k * 5 + 1, none⟩ = some (.string (bstr (us[j]).text)) := p1
              have d2 : wr.cell? ⟨g3, k * 5 + 2, none⟩ = some (.int .u64 (us[j]).n) := p2
              have d3 : wr.cell? ⟨g3, k * 5 + 3, none⟩ = some (.int .i64 ((us[j]).line + e.line : Int)) := by
                have e9 : ((e.line + (us[j]).line : Nat) : Int) = ((us[j]).line : Int) + e.line := by omega
                rw [← e9]; exact p3
              have d4 : wr.cell? ⟨g3, k * 5 + 4, none⟩ = some (.int .i64 (us[j]).col) := p4
              have RX := fun o1 o2 => row5 ((R2.out.kept h2 hbx.out).kept gw2 ((((Below.refl _ _).alloc (Nat.le_refl _) o1)).alloc (by rw [World.size_alloc]; omega) o2)) hg2
              have f0 := fun o1 o2 => (RX o1 o2).1
              have f1 := fun o1 o2 => (RX o1 o2).2.1
              have f2 := fun o1 o2 => (RX o1 o2).2.2.1
              have f3 := fun o1 o2 => (RX o1 o2).2.2.2.1
              have f4 := fun o1 o2 => (RX o1 o2).2.2.2.2
              have ul : (us[j]).line ≤ 5000 := by have := ll.out (us[j]) (List.getElem_mem hju); omega
              have tt : ((bstr (us[j]).text).toList == (bstr (us[j]).text).toList) = true := by simp
              have hz : ((k : Int) - ((xs.length : Int) + 1) + 1) = (j : Int) := by omega
              clear RX hg2 hg3 hj p0 p1 p2 p3 p4
              go_wp2
              go_roundw
              case rel => exact ⟨k + 1, by go_num, by omega, hid ((hbx.out.alloc hbx.out.size _).alloc (by rw [World.size_alloc]; omega) _)⟩
              case measure => simp [intOf]; omega
            · go_wp2
              go_ret
              exact ⟨rfl, b05.out.trans (hbx.out.mono b05.out.size)⟩
  · have hq : 4096 < a.length ∨ 4096 ≤ b.length := by omega
    by_cases h1 : a.length ≤ 4096
    · have h2 : 4096 ≤ b.length := by omega
      clear hl hq
      go_enter Tryd.func7, Tryd.ntmps7
      go_wp2_with (go_at_call 9; refine A.mono ?_; rintro e w1 ⟨rfl, b1⟩)
      go_ret
      exact ⟨rfl, by assumption⟩
    · clear hl hq
      go_enter Tryd.func7, Tryd.ntmps7
      go_wp2_with (go_at_call 9; refine A.mono ?_; rintro e w1 ⟨rfl, b1⟩)
      go_ret
      exact ⟨rfl, by assumption⟩
end Go.Proofs.YtdankjkmgcclhaaDoor.lexJoins
