/- The contract of the document's own answer for all tokens. -/
import Derived.Test.YtdankjkmgcclhaaDoorOne
import Derived.Test.YtdankjkmgcclhaaDoorLexNotesW
namespace Go.Proofs.YtdankjkmgcclhaaDoor
open Go.ChangeShapes Go.WideShapes Go.ChangeAt Go.RowKit
open lexNotes (lex_gap)
set_option linter.unusedVariables false

theorem results_tmp4 {fn : Func} {a b c d : Tmp} (h : fn.results = #[.tmp a, .tmp b, .tmp c, .tmp d]) (tmps : Array Value) (P : Program) (w : World) :
    (results fn tmps).run P w = .ok (.tuple #[tmps.getD a undef, tmps.getD b undef, tmps.getD c undef, tmps.getD d undef]) w := by
  simp only [results, h]
  simp

theorem info37 : (Tryd.prog.info? 37).map (fun i => (i.zero, i.size, i.bytes)) = some (some (tokV 0 [] 0 0 0), 5, 48) := by kernel_rfl

theorem gap_nt (g r : List UInt8) (hg : 10 ∉ g) (hr : r = [] ∨ ∃ x, r = 10 :: x) : gapN true (g ++ r) = g.length + gapN false r := by
  induction g with
  | nil =>
    rcases hr with rfl | ⟨x, rfl⟩
    · rfl
    · rw [List.nil_append, gap_nl, gap_nl]; simp
  | cons c g ih =>
    simp only [List.mem_cons, not_or] at hg
    rw [List.cons_append, gap_noted c _ (fun e => hg.1 e.symm), ih hg.2]
    simp
    omega

theorem gap_line (g r : List UInt8) (hg : 10 ∉ g) (hr : r = [] ∨ ∃ x, r = 10 :: x) : gapN false ((47 :: 47 :: g) ++ r) = (47 :: 47 :: g).length + gapN false r := by
  have h2 : preB [47, 47] (47 :: 47 :: (g ++ r)) = true := (preB_iff _ _).2 ⟨_, rfl⟩
  rw [List.cons_append, List.cons_append, gap_note 47 _ h2, gap_noted 47 _ (by decide), gap_nt g r hg hr]
  simp
  omega

theorem gap_one (c : UInt8) (m : List UInt8) (h : c = 32 ∨ c = 9 ∨ c = 10 ∨ c = 13) : gapN false ([c] ++ m) = [c].length + gapN false m := by
  rw [List.cons_append, List.nil_append]
  by_cases h10 : c = 10
  · subst h10; rw [gap_nl]; simp; omega
  · rw [gap_blank false c m h10 (by rcases h with h | h | h | h; exact Or.inl h; exact Or.inr (Or.inl h); exact absurd h h10; exact Or.inr (Or.inr h))]
    simp
    omega

/-- What holds at each round's head. -/
structure AtR (l : List UInt8) (w wr : World) (i : Nat) (p : Nat × Nat) (ts : List Tok) (v : Value) : Prop where
  own : wr.ownsRow w.heap.size 37 5 v ts.length (cellsT ts)
  bel : Below w.heap.size w wr
  lex : lexL l = preT ts (lexF ((l.drop i).length + 1) (l.drop i) p)
  few : ts.length ≤ i
  row : p.1 ≤ i + 1
  col : p.2 ≤ i + 1

/-- What the document's Lex leaves. -/
def RefAns (l : List UInt8) (base : Nat) (w' : World) (r : Value) : Prop := match lexL l with
  | .ok ts => ∃ v, r = .tuple #[v, .int .i64 0, .int .i64 0, .int .i64 0] ∧ w'.ownsRow base 37 5 v ts.length (cellsT ts)
  | .error p => r = .tuple #[.slice none 0 0, .int .i64 3, .int .i64 p.1, .int .i64 p.2]

theorem newsT (W : World) (ty : TypeId) (k : Nat) (t : List UInt8) (n a b m : Nat) (hm : m = W.heap.size) : ∀ (j : Nat) (u : Value), (tokC k t n a b)[j]? = some u →
    (W.alloc (.cells #[.int .i64 k, .string (bstr t), .int .u64 n, .int .i64 a, .int .i64 b] ty)).cell? ((⟨m, 0, none⟩ : Addr).add j) = some u := by
  intro j u hu
  subst hm
  rw [Addr.add_lit, Nat.zero_add]
  refine cell_fresh W _ ty u ?_
  rw [← hu]
  exact List.getElem?_toArray (xs := tokC k t n a b)

theorem grown_own {l : List UInt8} {w wr w3 w4 : World} {i : Nat} {p : Nat × Nat} {ts : List Tok} {v v' : Value} (hat : AtR l w wr i p ts v) (b13 : Below wr.heap.size wr w3) (tok : Tok)
    (h1 : w4.ownsRow w.heap.size 37 5 v' (ts.length + 1) (cellsT ts ++ tok.cells)) (h2 : w3.grownBy w4 v.ownBlock) : w4.ownsRow w.heap.size 37 5 v' (ts ++ [tok]).length (cellsT (ts ++ [tok])) ∧ Below w.heap.size w w4 := by
  constructor
  · rw [cellsT_app]
    have e : cellsT [tok] = tok.cells := by simp [cellsT]
    rw [e, List.length_append]
    exact h1
  · have b03 : Below w.heap.size w w3 := hat.bel.trans (b13.mono hat.bel.size)
    refine Below.grown b03 h2 b03.size ?_
    intro k e
    exact (hat.own.lt k e).1

set_option maxRecDepth 100000 in
set_option maxHeartbeats 8000000 in
theorem refLex_any (l : List UInt8) (hl : l.length ≤ 8192) (w : World) : Calls Tryd.prog 11 #[.string (bstr l)] w fun e w' => ∃ r, e = .returned r ∧ RefAns l w.heap.size w' r ∧ Below w.heap.size w w' := by
  have s1 := bstr_size l
  obtain ⟨i0, hi0, z0, z1, z2⟩ := info_parts info37
  go_enter Tryd.func11, Tryd.ntmps11
  go_wp2_with fail
  go_loopw [6, 7, 8, 9] (fun vt vl vc vi wr => ∃ (i : Nat) (p : Nat × Nat) (ts : List Tok), vi = .int .i64 i ∧ vl = .int .i64 p.1 ∧ vc = .int .i64 p.2 ∧ i ≤ l.length ∧ Hid (AtR l w wr i p ts vt)) (fun _ _ _ vi _ => l.length - (intOf vi).toNat)
  case atStart => exact ⟨0, (1, 1), [], rfl, rfl, rfl, by omega, hid ⟨World.ownsRow_nil _ _ _ _, Below.refl _ _, (preT_nil _).symm, by simp, by simp, by simp⟩⟩
  case round =>
    obtain ⟨i, p, ts, rfl, rfl, rfl, hi, hat⟩ := hrel
    have hrow := hat.out.row
    have hcol := hat.out.col
    have hfew := hat.out.few
    have hm : ts.length + 1 ≤ maxLen := by simp only [maxLen]; omega
    by_cases hlt : i < l.length
    · have g0 := get_bstr l i hlt (by omega)
      have hd : l.drop i = l[i] :: l.drop (i + 1) := List.drop_eq_getElem_cons hlt
      by_cases hbl : l[i] = 32 ∨ l[i] = 9 ∨ l[i] = 10 ∨ l[i] = 13
      · have N : Hid (lexL l = preT ts (lexF ((l.drop (i + 1)).length + 1) (l.drop (i + 1)) (adv1 p l[i]))) := hid (by
          have := lex_gap [l[i]] (l.drop (i + 1)) p (gap_one _ _ hbl)
          rw [List.cons_append, List.nil_append, ← hd] at this
          rw [hat.out.lex, this]; rfl)
        rcases hbl with hc | hc | hc | hc
        · have hI : ((l[i]).toNat : Int) = 32 := by rw [hc]; rfl
          have M : Hid (AtR l w wr (i + 1) (p.1, p.2 + 1) ts u6) := hid ⟨hat.out.own, hat.out.bel, by rw [N.out, adv1, if_neg (by rw [hc]; decide)], by omega, by simp only; omega, by simp only; omega⟩
          clear hc N hd
          go_wp2
          go_roundw
          case rel => exact ⟨i + 1, (p.1, p.2 + 1), ts, by go_num, rfl, (by first | go_num | (congr 1; omega)), by omega, M⟩
          case measure => simp [intOf]; omega
        · have hI : ((l[i]).toNat : Int) = 9 := by rw [hc]; rfl
          have M : Hid (AtR l w wr (i + 1) (p.1, p.2 + 1) ts u6) := hid ⟨hat.out.own, hat.out.bel, by rw [N.out, adv1, if_neg (by rw [hc]; decide)], by omega, by simp only; omega, by simp only; omega⟩
          clear hc N hd
          go_wp2
          go_roundw
          case rel => exact ⟨i + 1, (p.1, p.2 + 1), ts, by go_num, rfl, (by first | go_num | (congr 1; omega)), by omega, M⟩
          case measure => simp [intOf]; omega
        · have hI : ((l[i]).toNat : Int) = 10 := by rw [hc]; rfl
          have M : Hid (AtR l w wr (i + 1) (p.1 + 1, 1) ts u6) := hid ⟨hat.out.own, hat.out.bel, by rw [N.out, adv1, if_pos hc], by omega, by simp only; omega, by simp only; omega⟩
          clear hc N hd
          go_wp2
          go_roundw
          case rel => exact ⟨i + 1, (p.1 + 1, 1), ts, by go_num, by go_num, rfl, by omega, M⟩
          case measure => simp [intOf]; omega
        · have hI : ((l[i]).toNat : Int) = 13 := by rw [hc]; rfl
          have tI : (((l[i]).toNat : Int) == 13) = true := by rw [hc]; rfl
          have t32 : (((l[i]).toNat : Int) == 32) = false := by rw [hc]; rfl
          have p32 : ¬ ((l[i]).toNat : Int) = 32 := by simpa using t32
          have t9 : (((l[i]).toNat : Int) == 9) = false := by rw [hc]; rfl
          have p9 : ¬ ((l[i]).toNat : Int) = 9 := by simpa using t9
          have t10 : (((l[i]).toNat : Int) == 10) = false := by rw [hc]; rfl
          have p10 : ¬ ((l[i]).toNat : Int) = 10 := by simpa using t10
          have M : Hid (AtR l w wr (i + 1) (p.1, p.2 + 1) ts u6) := hid ⟨hat.out.own, hat.out.bel, by rw [N.out, adv1, if_neg (by rw [hc]; decide)], by omega, by simp only; omega, by simp only; omega⟩
          have bad : ((((((l[i]).toNat : Int) == 32) = false ∧ (((l[i]).toNat : Int) == 9) = false) ∧ (((l[i]).toNat : Int) == 10) = false) ∧ (((l[i]).toNat : Int) == 13) = false) → False := fun h => by rw [tI] at h; exact absurd h.2 (by decide)
          clear hc N hd
          go_wp2_with fail
          all_goals (try exact (bad (by assumption)).elim)
          go_roundw
          case rel => exact ⟨i + 1, (p.1, p.2 + 1), ts, by go_num, rfl, (by first | go_num | (congr 1; omega)), by omega, M⟩
          case measure => simp [intOf]; omega
      · have n32 : l[i] ≠ 32 := fun h => hbl (Or.inl h)
        have n9 : l[i] ≠ 9 := fun h => hbl (Or.inr (Or.inl h))
        have n10 : l[i] ≠ 10 := fun h => hbl (Or.inr (Or.inr (Or.inl h)))
        have n13 : l[i] ≠ 13 := fun h => hbl (Or.inr (Or.inr (Or.inr h)))
        have t32 : (((l[i]).toNat : Int) == 32) = false := rune_ne rfl n32
        have t9 : (((l[i]).toNat : Int) == 9) = false := rune_ne rfl n9
        have t10 : (((l[i]).toNat : Int) == 10) = false := rune_ne rfl n10
        have t13 : (((l[i]).toNat : Int) == 13) = false := rune_ne rfl n13
        have p32 : ¬ ((l[i]).toNat : Int) = 32 := by simpa using t32
        have p9 : ¬ ((l[i]).toNat : Int) = 9 := by simpa using t9
        have p10 : ¬ ((l[i]).toNat : Int) = 10 := by simpa using t10
        have p13 : ¬ ((l[i]).toNat : Int) = 13 := by simpa using t13
        have bad : ((((((l[i]).toNat : Int) == 32) = true ∨ (((l[i]).toNat : Int) == 9) = true) ∨ (((l[i]).toNat : Int) == 10) = true) ∨ (((l[i]).toNat : Int) == 13) = true) → False := fun h => by rw [t32, t9, t10, t13] at h; simp at h
        by_cases hnt : preB [47, 47] (l.drop i) = true
        · obtain ⟨m, hm2⟩ := (preB_iff _ _).1 hnt
          have hlen2 : i + 1 < l.length := by
            have := congrArg List.length hm2
            simp at this
            omega
          have hc : l[i] = 47 := by
            have := hd.symm.trans hm2
            simp only [List.cons_append, List.cons.injEq] at this
            exact this.1
          have hc1 : l[i + 1] = 47 := by
            have := congrArg (·[1]?) hm2
            simp only [List.getElem?_drop] at this
            rw [List.getElem?_eq_getElem hlen2] at this
            simpa using this
          have g1 := get_bstr l (i + 1) hlen2 (by omega)
          have t47 : ((l[i]).toNat : Int) = 47 := by rw [hc]; rfl
          have v47 : (((l[i]).toNat : Int) == 47) = true := by rw [hc]; rfl
          have u47 : ((l[i + 1]).toNat : Int) = 47 := by rw [hc1]; rfl
          have x47 : (((l[i + 1]).toNat : Int) == 47) = true := by rw [hc1]; rfl
          have FIN : Hid (∀ e, i + 2 ≤ e → e ≤ l.length → (∀ j, (hj : j < l.length) → i ≤ j → j < e → l[j] ≠ 10) → (e = l.length ∨ ∃ h : e < l.length, l[e] = 10) → AtR l w wr e (p.1, p.2 + (e - i)) ts u6) := hid (fun e he1 he2 hno hend => by
            have hsp : l.drop i = (l.drop i).take (e - i) ++ l.drop e := by
              conv => lhs; rw [← List.take_append_drop (e - i) (l.drop i)]
              rw [List.drop_drop, show i + (e - i) = e by omega]
            have hlen3 : ((l.drop i).take (e - i)).length = e - i := by rw [List.length_take, List.length_drop]; omega
            have h10 : 10 ∉ (l.drop i).take (e - i) := by
              intro hmem
              obtain ⟨j, hj, he⟩ := List.getElem_of_mem hmem
              rw [hlen3] at hj
              have h2 := hno (i + j) (by omega) (by omega) (by omega)
              apply h2
              rw [← he]
              simp
            obtain ⟨g, hg⟩ : ∃ g, (l.drop i).take (e - i) = 47 :: 47 :: g := by
              rw [hm2]
              obtain ⟨q, hq⟩ : ∃ q, e - i = q + 2 := ⟨e - i - 2, by omega⟩
              rw [hq]
              exact ⟨m.take q, rfl⟩
            have hr : l.drop e = [] ∨ ∃ x, l.drop e = 10 :: x := by
              rcases hend with h | ⟨h1, h2⟩
              · left; rw [h]; simp
              · right; exact ⟨l.drop (e + 1), by rw [List.drop_eq_getElem_cons h1, h2]⟩
            have hgl := gap_line g (l.drop e) (by rw [hg] at h10; simp only [List.mem_cons, not_or] at h10; exact h10.2.2) hr
            rw [← hg] at hgl
            have := lex_gap _ _ p hgl
            rw [← hsp] at this
            refine ⟨hat.out.own, hat.out.bel, ?_, by omega, by simp only; omega, by simp only; omega⟩
            rw [hat.out.lex, this, adv_plain _ _ h10, hlen3])
          clear hm2 hc hc1 hnt hd hbl n32 n9 n13 hat
          go_wp2_with fail
          all_goals (try exact (bad (by assumption)).elim)
          go_loop [11] (fun v => ∃ e : Nat, v = .int .i64 e ∧ i ≤ e ∧ e ≤ l.length ∧ Hid (∀ j, (hj : j < l.length) → i ≤ j → j < e → l[j] ≠ 10)) (fun v => l.length - (intOf v).toNat)
          case atStart => exact ⟨i, rfl, Nat.le_refl _, by omega, hid (fun j hj h1 h2 => by omega)⟩
          case round =>
            obtain ⟨e, rfl, he1, he2, hno⟩ := hrel
            by_cases hel : e < l.length
            · have ge := get_bstr l e hel (by omega)
              by_cases hce : l[e] = 10
              · have te : ((l[e]).toNat : Int) = 10 := by rw [hce]; rfl
                have hei : i + 2 ≤ e := by
                  rcases (by omega : e = i ∨ e = i + 1 ∨ i + 2 ≤ e) with h | h | h
                  · subst h; exact absurd hce n10
                  · subst h; rw [hce] at u47; exact absurd u47 (by decide)
                  · exact h
                have M := hid (FIN.out e hei (by omega) hno.out (Or.inr ⟨hel, hce⟩))
                clear hce FIN
                go_wp2
                go_roundw
                case rel => exact ⟨e, (p.1, p.2 + (e - i)), ts, rfl, rfl, (by first | go_num | (congr 1; omega)), by omega, M⟩
                case measure => simp [intOf]; omega
              · have te : (((l[e]).toNat : Int) == 10) = false := rune_ne rfl hce
                have te2 : ¬ ((l[e]).toNat : Int) = 10 := by simpa using te
                have F : Hid (∀ j, (hj : j < l.length) → i ≤ j → j < e + 1 → l[j] ≠ 10) := hid (fun j hj h1 h2 => by
                  by_cases hje : j < e
                  · exact hno.out j hj h1 hje
                  · obtain rfl : j = e := by omega
                    exact hce)
                clear hce
                go_wp2
                go_round
                case rel => exact ⟨e + 1, by go_num, by omega, by omega, F⟩
                case measure => simp [intOf]; omega
            · have M := hid (FIN.out e (by omega) (by omega) hno.out (Or.inl (by omega)))
              clear FIN
              go_wp2
              go_roundw
              case rel => exact ⟨e, (p.1, p.2 + (e - i)), ts, rfl, rfl, (by first | go_num | (congr 1; omega)), by omega, M⟩
              case measure => simp [intOf]; omega
        · have hnt : preB [47, 47] (l.drop i) = false := by simpa using hnt
          have hg0 : gapN false (l.drop i) = 0 := by
            rw [hd] at hnt ⊢
            exact gap_stop _ _ n10 (by rintro (h | h | h); exact n32 h; exact n9 h; exact n13 h) hnt
          have stp := lex_step (l.drop i) p
          rw [hg0] at stp
          simp only [List.drop_zero, List.take_zero, adv_nil] at stp
          have hltK := hlt
          have T : (((l[i]).toNat : Int) == 47) = false ∨ ((((l[i]).toNat : Int) == 47) = true ∧ ((¬ i + 1 < l.length) ∨ ∃ h : i + 1 < l.length, (((l[i + 1]).toNat : Int) == 47) = false)) := by
            by_cases h47 : l[i] = 47
            · right
              refine ⟨by rw [h47]; rfl, ?_⟩
              by_cases hl2 : i + 1 < l.length
              · right
                refine ⟨hl2, rune_ne (k := 47) rfl (fun h => ?_)⟩
                have : preB [47, 47] (l.drop i) = true := by
                  rw [hd, h47, List.drop_eq_getElem_cons hl2, h]
                  rfl
                rw [hnt] at this
                cases this
              · exact Or.inl hl2
            · exact Or.inl (rune_ne (k := 47) rfl h47)
          have O := fun W => refOne_any l i hlt (by omega) W
          have fs := hid (fun k t n (h : firstT (l.drop i) = some (k, t, n)) => first_spec h)
          have hne : Hid (l.drop i ≠ []) := hid (by rw [hd]; exact List.cons_ne_nil _ _)
          have hdl : (l.drop i).length = l.length - i := List.length_drop
          clear hbl hd hnt hg0 n32 n9 n13
          cases hft : firstT (l.drop i) with
          | none =>
            rw [hft] at O stp
            simp only at stp
            have O2 : ∀ W, Calls Tryd.prog 20 #[.string (bstr l), .int .i64 i] W fun e w' => e = .returned (.tuple #[.agg #[.int .i64 0, .string (bstr []), .int .u64 0, .int .i64 0, .int .i64 0], .int .i64 i]) ∧ Below W.heap.size W w' := O
            have L : Hid (lexL l = .error p) := hid (by rw [hat.out.lex, stp]; rfl)
            clear O stp hft fs
            rcases T with t47 | ⟨t47, hl2 | ⟨hl2, u47⟩⟩
            all_goals (
              have bw := hid hat.out.bel
              first | (have gg := get_bstr l (i + 1) hl2 (by omega)) | skip
              first | (have p47 : ¬ ((l[i]).toNat : Int) = 47 := by simpa using t47) | (have q47 : ((l[i]).toNat : Int) = 47 := by simpa using t47)
              first | (have pu : ¬ ((l[i + 1]).toNat : Int) = 47 := by simpa using u47) | skip
              first | (have bad2 : (((l[i + 1]).toNat : Int) == 47) = true → False := fun h => absurd (u47.symm.trans h) (by decide)) | (have bad2 : False → False := id)
              go_wp2_with fail
              all_goals (try exact (bad (by assumption)).elim)
              all_goals (try exact (bad2 (by assumption)).elim)
              refine (O2 _).mono ?_
              rintro e w3 ⟨rfl, b3⟩
              have b03 := hid (bw.out.trans (b3.mono bw.out.size))
              clear b3
              go_wp2
              try simp only [Exit.inBlock, Exit.then]
              refine bodyPost_ret (results_tmp4 rfl _ _ _) rfl ?_
              exact ⟨_, rfl, by rw [RefAns, L.out]; rfl, b03.out.alloc b03.out.size _⟩)
          | some x =>
            obtain ⟨k, t, n⟩ := x
            rw [hft] at O stp
            simp only at stp
            have O2 : ∀ W, Calls Tryd.prog 20 #[.string (bstr l), .int .i64 i] W fun e w' => e = .returned (.tuple #[.agg #[.int .i64 k, .string (bstr t), .int .u64 n, .int .i64 0, .int .i64 0], .int .i64 ((i : Int) + (t.length : Nat))]) ∧ Below W.heap.size W w' := fun W => by
              have := O W
              have e9 : ((i + t.length : Nat) : Int) = (i : Int) + (t.length : Nat) := by omega
              simp only [oneR] at this
              rw [e9] at this
              exact this
            rcases fs.out k t n hft with ⟨_, h0, _⟩ | ⟨hk, tl1, ⟨r, hr⟩, h10⟩
            · exact absurd h0 hne.out
            · have hlr := congrArg List.length hr
              simp only [List.length_append] at hlr
              have kz : ((k : Int) == 0) = false := by rw [beq_eq_false_iff_ne]; omega
              have L : Hid (lexL l = preT (ts ++ [⟨k, t, n, p.1, p.2⟩]) (lexF ((l.drop (i + t.length)).length + 1) (l.drop (i + t.length)) (p.1, p.2 + t.length))) := hid (by
                rw [hat.out.lex, stp, if_neg hk, preT_app, List.drop_drop, adv_plain _ _ h10])
              clear O stp hft fs hr hk h10
              rcases T with t47 | ⟨t47, hl2 | ⟨hl2, u47⟩⟩
              all_goals (
                first | (have gg := get_bstr l (i + 1) hl2 (by omega)) | skip
                first | (have p47 : ¬ ((l[i]).toNat : Int) = 47 := by simpa using t47) | (have q47 : ((l[i]).toNat : Int) = 47 := by simpa using t47)
                first | (have pu : ¬ ((l[i + 1]).toNat : Int) = 47 := by simpa using u47) | skip
                first | (have bad2 : (((l[i + 1]).toNat : Int) == 47) = true → False := fun h => absurd (u47.symm.trans h) (by decide)) | (have bad2 : False → False := id)
                go_wp2_with fail
                all_goals (try exact (bad (by assumption)).elim)
                all_goals (try exact (bad2 (by assumption)).elim)
                refine (O2 _).mono ?_
                rintro e w3 ⟨rfl, b3⟩
                have own3 := hid (own_below hat.out.own b3)
                have hs3 : w.heap.size ≤ w3.heap.size := Nat.le_trans hat.out.bel.size b3.size
                have b3 := hid b3
                have N5 := hid (fun o => newsT (w3.alloc o) 37 k t n p.1 p.2 (w3.heap.size + 1) (World.size_alloc ..).symm)
                go_wp2_with (at_builtin; refine wpList_append_own _ rfl _ _ 29 rfl w.heap.size 37 i0 (tokV 0 [] 0 0 0) 5 48 Tryd.underlying29 hi0 z0 z1 z2 rfl (by decide) _ ts.length (cellsT ts) rfl ((own3.out.alloc _).alloc _) ⟨w3.heap.size + 1, 0, none⟩ 1 1 (tokC k t n p.1 p.2) rfl rfl (N5.out _) (one5 _ _ _ _ _) hm (by omega) (by simp only [World.size_alloc]; omega) ?_)
                intro v' w4 q1 q2 _
                obtain ⟨m1, m2⟩ := grown_own hat.out ((b3.out.alloc b3.out.size _).alloc (by rw [World.size_alloc]; have := b3.out.size; omega) _) ⟨k, t, n, p.1, p.2⟩ q1 q2
                have M : Hid (AtR l w w4 (i + t.length) (p.1, p.2 + t.length) (ts ++ [⟨k, t, n, p.1, p.2⟩]) v') := hid ⟨m1, m2, L.out, by simp; omega, by simp only; omega, by simp only; omega⟩
                clear q1 q2 m1 m2
                go_wp2
                go_roundw
                case rel => exact ⟨i + t.length, (p.1, p.2 + t.length), ts ++ [⟨k, t, n, p.1, p.2⟩], by go_num, rfl, (by first | go_num | (congr 1; omega)), by omega, M⟩
                case measure => simp [intOf]; omega)
    · have hil : i = l.length := by omega
      have L : Hid (lexL l = .ok (ts ++ [⟨0, [], 0, p.1, p.2⟩])) := hid (by
        have e : l.drop i = [] := List.drop_eq_nil_of_le (by omega)
        rw [hat.out.lex, e]
        rfl)
      have N5 := hid (newsT wr 37 0 [] 0 p.1 p.2 wr.heap.size rfl)
      have hs3 : w.heap.size ≤ wr.heap.size := hat.out.bel.size
      clear hil
      go_wp2_with (at_builtin; refine wpList_append_own _ rfl _ _ 29 rfl w.heap.size 37 i0 (tokV 0 [] 0 0 0) 5 48 Tryd.underlying29 hi0 z0 z1 z2 rfl (by decide) _ ts.length (cellsT ts) rfl (hat.out.own.alloc _) ⟨wr.heap.size, 0, none⟩ 1 1 (tokC 0 [] 0 p.1 p.2) rfl rfl N5.out (one5 _ _ _ _ _) hm (by omega) (by simp only [World.size_alloc]; omega) ?_)
      intro v' w4 q1 q2 _
      obtain ⟨m1, m2⟩ := grown_own hat.out ((Below.refl _ _).alloc (Nat.le_refl _) _) ⟨0, [], 0, p.1, p.2⟩ q1 q2
      have m1 := hid m1
      have m2 := hid m2
      clear q1 q2
      go_wp2
      try simp only [Exit.inBlock, Exit.then]
      refine bodyPost_ret (results_tmp4 rfl _ _ _) rfl ?_
      refine ⟨_, rfl, ?_, m2.out⟩
      rw [RefAns, L.out]
      exact ⟨v', rfl, m1.out⟩
end Go.Proofs.YtdankjkmgcclhaaDoor
