/- The contract of lex's Lex. -/
import Derived.Test.YtdankjkmgcclhaaDoorLexm
import Derived.OwnWalk
namespace Go.Proofs.YtdankjkmgcclhaaDoor
open Go.ChangeShapes Go.WideShapes Go.ChangeAt Go.RowKit
set_option linter.unusedVariables false

theorem results_tmp_row {P : Program} {fn : Func} {p u : Tmp} {ty : TypeId} (h : fn.results = #[.tmp u, .cell p ty]) (tmps : Array Value) (w : World) (g : Nat) (t : TypeId) (cs : Array Value) (fr : Nat × Nat) (d : TypeDesc)
    (hp : tmps.getD p undef = .pointer (some ⟨g, 0, none⟩)) (hg : w.heap[g]? = some (.cells cs t fr))
    (hu : P.underlying ty = some d) (hd : (match d with | .struct _ | .array _ _ => true | _ => false) = true) (hi : (P.info? ty).map (·.size) = some cs.size) :
    (results fn tmps).run P w = .ok (.tuple #[tmps.getD u undef, .agg cs]) w := by
  have hp' : tmps[p]?.getD undef = .pointer (some ⟨g, 0, none⟩) := by simpa using hp
  simp only [results, h]
  simp [hp', asAddr, run_loadVar_row (P := P) w g t ty cs fr d hg hu hd hi, Result.andThen]

theorem info35 : (Tryd.prog.info? 35).map (fun i => (i.zero, i.size, i.bytes)) = some (some (tokV 0 [] 0 0 0), 5, 48) := by kernel_rfl

/-- How many bytes a text has. -/
def strLen (v : Value) : Nat := match v with | .string s => s.size | _ => 0

/-- A fault. -/
def faultV (e line col : Nat) : Value := .agg #[.int .i64 e, .int .i64 line, .int .i64 col]

/-- What Lex leaves: tokens in a row of its own, and no fault; or a fault. -/
def LexAns (l : List UInt8) (base : Nat) (w' : World) (r : Value) : Prop := match lexL l with
  | .ok ts => ∃ v, r = .tuple #[v, faultV 0 0 0] ∧ w'.ownsRow base 35 5 v ts.length (cellsT ts)
  | .error p => r = .tuple #[.slice none 0 0, faultV 3 p.1 p.2]

theorem alloc3 {w : World} {b : Nat} {x0 x1 x2 : Value} (k : Blk w b #[x0, x1, x2] 26) (o : Obj) : Blk (w.alloc o) b #[x0, x1, x2] 26 := k.kept ((Below.refl _ _).alloc (Nat.le_refl _) _)

/-- A fault's block, for the walk to take. -/
theorem facts3 {w : World} {b : Nat} {x0 x1 x2 : Value} (k : Blk w b #[x0, x1, x2] 26) :
    (∀ o, (w.alloc o).cell? ⟨b, 0, none⟩ = some x0) ∧ (∀ o, (w.alloc o).cell? ⟨b, 1, none⟩ = some x1) ∧ (∀ o, (w.alloc o).cell? ⟨b, 2, none⟩ = some x2) ∧ (∀ o j, (w.alloc o).frozen? ⟨b, j, none⟩ = false) :=
  ⟨fun o => (alloc3 k o).cell 0, fun o => (alloc3 k o).cell 1, fun o => (alloc3 k o).cell 2, fun o j => (alloc3 k o).frozen j⟩

/-- What holds at each round's head. -/
structure At (l : List UInt8) (w wr : World) (r : List UInt8) (p : Nat × Nat) (ts : List Tok) (v : Value) : Prop where
  own : wr.ownsRow (w.heap.size + 1) 35 5 v ts.length (cellsT ts)
  blk : Blk wr w.heap.size #[.int .i64 0, .int .i64 0, .int .i64 0] 26
  bel : Below w.heap.size w wr
  lex : lexL l = preT ts (lexF (r.length + 1) r p)
  few : ts.length + r.length ≤ l.length
  row : p.1 + r.length ≤ l.length + 1
  col : p.2 + r.length ≤ l.length + 1

theorem adv_le2 (p : Nat × Nat) (l : List UInt8) : (adv p l).1 ≤ p.1 + l.length ∧ (adv p l).2 ≤ p.2 + l.length := by
  induction l generalizing p with
  | nil => simp [adv]
  | cons c l ih =>
    rw [adv_cons]
    have := ih (adv1 p c)
    have h1 : (adv1 p c).1 ≤ p.1 + 1 ∧ (adv1 p c).2 ≤ p.2 + 1 := by
      unfold adv1
      split <;> simp
    simp only [List.length_cons]
    omega

theorem own_below {w w' : World} {base : Nat} {e : TypeId} {size : Nat} {v : Value} {n : Nat} {xs : List Value} (h : w.ownsRow base e size v n xs) (b : Below w.heap.size w w') : w'.ownsRow base e size v n xs := by
  refine ⟨h.1, ?_⟩
  rcases h.2 with h2 | ⟨g, cap, cur, hv, hb, hg, rest⟩
  · exact Or.inl h2
  · exact Or.inr ⟨g, cap, cur, hv, hb, (b.block g (Array.getElem?_eq_some_iff.1 hg).1).trans hg, rest⟩
theorem own_base {w : World} {base base' : Nat} {e : TypeId} {size : Nat} {v : Value} {n : Nat} {xs : List Value} (h : w.ownsRow base e size v n xs) (b : base' ≤ base) : w.ownsRow base' e size v n xs := by
  refine ⟨h.1, ?_⟩
  rcases h.2 with h2 | ⟨g, cap, cur, hv, hb, hg, rest⟩
  · exact Or.inl h2
  · exact Or.inr ⟨g, cap, cur, hv, Nat.le_trans b hb, hg, rest⟩
theorem Blk.grown {w w' : World} {b : Nat} {cs : Array Value} {t : TypeId} {row : Option Nat} (h : Blk w b cs t) (k : w.grownBy w' row) (hr : row ≠ some b) : Blk w' b cs t := (k.block b h.lt (fun e => hr e.symm)).trans h

theorem Blk.set3 {w : World} {b : Nat} {a0 a1 a2 : Value} (h : Blk w b #[a0, a1, a2] 26) (b0 b1 b2 : Value) :
    Blk (((w.setCell ⟨b, 0, none⟩ b0).setCell ⟨b, 1, none⟩ b1).setCell ⟨b, 2, none⟩ b2) b #[b0, b1, b2] 26 :=
  ((h.set 0 b0).set 1 b1).set 2 b2
theorem below_set3 {B : Nat} {w0 w : World} {b : Nat} (h : Below B w0 w) (hB : B ≤ b) (b0 b1 b2 : Value) :
    Below B w0 (((w.setCell ⟨b, 0, none⟩ b0).setCell ⟨b, 1, none⟩ b1).setCell ⟨b, 2, none⟩ b2) :=
  ((h.setCell (p := ⟨b, 0, none⟩) hB b0).setCell (p := ⟨b, 1, none⟩) hB b1).setCell (p := ⟨b, 2, none⟩) hB b2
theorem own_set3 {w : World} {base : Nat} {e : TypeId} {size : Nat} {v : Value} {n : Nat} {xs : List Value} {b : Nat} (h : w.ownsRow base e size v n xs) (hb : b < base) (b0 b1 b2 : Value) :
    (((w.setCell ⟨b, 0, none⟩ b0).setCell ⟨b, 1, none⟩ b1).setCell ⟨b, 2, none⟩ b2).ownsRow base e size v n xs :=
  ownsRow_setCell_below (ownsRow_setCell_below (ownsRow_setCell_below h (a := ⟨b, 0, none⟩) hb _) (a := ⟨b, 1, none⟩) hb _) (a := ⟨b, 2, none⟩) hb _

/-- What holds behind the append: the row, the token's own block, the fault's. -/
structure Mid2 (w w3 w4 : World) (v' : Value) (ts : List Tok) (tok : Tok) : Prop where
  own : w4.ownsRow (w.heap.size + 1) 35 5 v' (ts ++ [tok]).length (cellsT (ts ++ [tok]))
  blk : Blk w4 w.heap.size #[.int .i64 0, .int .i64 0, .int .i64 0] 26
  tok : Blk w4 w3.heap.size tok.cells.toArray 35
  bel : Below w.heap.size w w4

theorem mid2 {l : List UInt8} {w wr w3 w4 : World} {r : List UInt8} {p : Nat × Nat} {ts : List Tok} {v v' : Value} (hat : At l w wr r p ts v) (b13 : Below wr.heap.size wr w3) (tok : Tok) {o2 : Obj}
    (h1 : w4.ownsRow (w.heap.size + 1) 35 5 v' (ts.length + 1) (cellsT ts ++ tok.cells)) (h2 : ((w3.alloc (.cells tok.cells.toArray 35)).alloc o2).grownBy w4 v.ownBlock) : Mid2 w w3 w4 v' ts tok := by
  have hs := b13.size
  have hlt : ∀ k, v.ownBlock = some k → w.heap.size + 1 ≤ k ∧ k < wr.heap.size := hat.own.lt
  have bA := (((Below.refl w3.heap.size w3).alloc (Nat.le_refl _) (.cells tok.cells.toArray 35)))
  have bA2 : Below w3.heap.size w3 ((w3.alloc (.cells tok.cells.toArray 35)).alloc o2) := bA.alloc bA.size o2
  refine ⟨?_, ?_, ?_, ?_⟩
  · rw [cellsT_app]
    have e : cellsT [tok] = tok.cells := by simp [cellsT]
    rw [e, List.length_append]
    exact h1
  · refine Blk.grown ((hat.blk.kept b13).kept bA2) h2 ?_
    intro e
    have := hlt _ e
    omega
  · refine Blk.grown ((Blk.new w3 _ 35).kept ((Below.refl _ _).alloc (Nat.le_refl _) o2)) h2 ?_
    intro e
    have := hlt _ e
    omega
  · have b03 : Below w.heap.size w w3 := hat.bel.trans (b13.mono hat.bel.size)
    refine Below.grown (b03.trans (bA2.mono b03.size)) h2 (Nat.le_trans b03.size bA2.size) ?_
    intro k e
    have := hlt _ e
    omega

theorem news5 (w3 : World) (o : Obj) (k : Nat) (t : List UInt8) (n a b : Nat) : ∀ (j : Nat) (u : Value), (tokC k t n a b)[j]? = some u →
    ((w3.alloc o).alloc (.cells #[.int .i64 k, .string (bstr t), .int .u64 n, .int .i64 a, .int .i64 b] 35)).cell? ((⟨w3.heap.size + 1, 0, none⟩ : Addr).add j) = some u := by
  intro j u hu
  have e : (w3.alloc o).heap.size = w3.heap.size + 1 := World.size_alloc ..
  rw [Addr.add_lit, ← e, Nat.zero_add]
  refine cell_fresh (w3.alloc o) _ 35 u ?_
  rw [← hu]
  exact List.getElem?_toArray (xs := tokC k t n a b)

theorem one5 (k : Nat) (t : List UInt8) (n a b : Nat) : ∀ u ∈ tokC k t n a b, u.oneCell' = true := by
  intro u hu
  simp only [tokC, List.mem_cons, List.not_mem_nil, or_false] at hu
  rcases hu with rfl | rfl | rfl | rfl | rfl <;> rfl

set_option maxRecDepth 100000 in
set_option maxHeartbeats 4000000 in
theorem lex_any (l : List UInt8) (hl : l.length ≤ 8192) (w : World) (h : Errs w) (h' : Signs w) :
    Calls Tryd.prog 10 #[.string (bstr l)] w fun e w' => ∃ r, e = .returned r ∧ LexAns l w.heap.size w' r ∧ Below w.heap.size w w' := by
  have s1 := bstr_size l
  obtain ⟨i0, hi, z0, z1, z2⟩ := info_parts info35
  go_enter Tryd.func10, Tryd.ntmps10
  go_wp2_with fail
  go_loopw [0, 4, 5, 6] (fun vs vt vl vc wr => ∃ (r : List UInt8) (p : Nat × Nat) (ts : List Tok), vs = .string (bstr r) ∧ vl = .int .i64 p.1 ∧ vc = .int .i64 p.2 ∧ Hid (At l w wr r p ts vt)) (fun vs _ _ _ _ => strLen vs)
  case atStart => exact ⟨l, (1, 1), [], rfl, rfl, rfl, hid ⟨World.ownsRow_nil _ _ _ _, Blk.new _ _ _, (Below.refl _ _).alloc (Nat.le_refl _) _, (preT_nil _).symm, by simp, by simp; omega, by simp; omega⟩⟩
  case round =>
    obtain ⟨r, p, ts, rfl, rfl, rfl, hat⟩ := hrel
    have hr : r.length ≤ l.length := by have := hat.out.few; omega
    have hts : ts.length ≤ 8192 := by have := hat.out.few; omega
    have hcol := hat.out.col
    have hrow := hat.out.row
    have hfew := hat.out.few
    have G := gap_le false r
    have B := fun W => between_any r (by omega) W
    have s2 := bstr_size r
    have x1 := extract0_bstr r (gapN false r)
    have x2 := extract_bstr r (gapN false r) r.length rfl
    have hgl : (r.take (gapN false r)).length = gapN false r := by rw [List.length_take]; omega
    have hdl : (r.drop (gapN false r)).length = r.length - gapN false r := List.length_drop
    have P := fun W => behind_any p (r.take (gapN false r)) (by omega) W
    have stp0 := hid (lex_step r p)
    have aq := adv_le2 p (r.take (gapN false r))
    have Fq := fun W hW hW' => first_any (r.drop (gapN false r)) (by omega) W hW hW'
    cases hft : firstT (r.drop (gapN false r)) with
    | none =>
      have e0 : firstV (r.drop (gapN false r)) = .tuple #[.agg #[.int .i64 0, .string (bstr []), .int .u64 0, .int .i64 0, .int .i64 0], .bool false] := by rw [firstV, hft]; rfl
      rw [e0] at Fq
      have stp : Hid (lexF (r.length + 1) r p = .error (adv p (r.take (gapN false r)))) := hid (by rw [stp0.out, hft])
      generalize adv p (r.take (gapN false r)) = q at *
      generalize r.drop (gapN false r) = r1 at *
      generalize r.take (gapN false r) = r0 at *
      generalize gapN false r = g at *
      clear hft e0 stp0
      go_wp2_with fail
      refine (B _).mono ?_
      rintro e w1 ⟨rfl, b1⟩
      go_wp2_with fail
      refine (P _).mono ?_
      rintro e w2 ⟨rfl, b2⟩
      have b12 := Below.over b1 b2
      have hE : Errs w2 := h.kept (hat.out.bel.trans (b12.mono hat.out.bel.size))
      have hS : Signs w2 := h'.kept (hat.out.bel.trans (b12.mono hat.out.bel.size))
      have Fq := Fq w2 hE hS
      clear hE hS
      go_wp2_with fail
      refine Fq.mono ?_
      rintro e w3 ⟨rfl, b3⟩
      have b13 := Below.over b12 b3
      have k3 := hat.out.blk.kept b13
      obtain ⟨f0, f1, f2, f3⟩ := facts3 k3
      have k3 := hid k3
      have b03 : Below w.heap.size w w3 := hat.out.bel.trans (b13.mono hat.out.bel.size)
      have b03 := hid b03
      clear Fq B P b13 b12 b1 b2 b3
      go_wp2
      try simp only [Exit.inBlock, Exit.then]
      refine bodyPost_ret (results_tmp_row (P := Tryd.prog) rfl _ _ w.heap.size _ _ _ _ rfl ((alloc3 k3.out _).set3 _ _ _) Tryd.underlying26 rfl (by kernel_rfl)) rfl ?_
      refine ⟨_, rfl, ?_, below_set3 (b03.out.alloc b03.out.size _) (Nat.le_refl _) _ _ _⟩
      have e : lexL l = .error q := by rw [hat.out.lex, stp.out]; rfl
      rw [LexAns, e]
      rfl
    | some x =>
      obtain ⟨k, t, n⟩ := x
      have e0 : firstV (r.drop (gapN false r)) = .tuple #[.agg #[.int .i64 k, .string (bstr t), .int .u64 n, .int .i64 0, .int .i64 0], .bool true] := by rw [firstV, hft]; rfl
      rw [e0] at Fq
      have fs := hid (first_spec hft)
      have stp := stp0.out
      rw [hft] at stp
      simp only at stp
      have stp := hid stp
      generalize adv p (r.take (gapN false r)) = q at *
      generalize r.drop (gapN false r) = r1 at *
      generalize r.take (gapN false r) = r0 at *
      generalize gapN false r = g at *
      clear hft e0 stp0
      go_wp2_with fail
      refine (B _).mono ?_
      rintro e w1 ⟨rfl, b1⟩
      go_wp2_with fail
      refine (P _).mono ?_
      rintro e w2 ⟨rfl, b2⟩
      have b12 := Below.over b1 b2
      have hE : Errs w2 := h.kept (hat.out.bel.trans (b12.mono hat.out.bel.size))
      have hS : Signs w2 := h'.kept (hat.out.bel.trans (b12.mono hat.out.bel.size))
      have Fq := Fq w2 hE hS
      clear hE hS
      go_wp2_with fail
      refine Fq.mono ?_
      rintro e w3 ⟨rfl, b3⟩
      have b13 := Below.over b12 b3
      have own3 := own_below hat.out.own b13
      have b03 : Below w.heap.size w w3 := hat.out.bel.trans (b13.mono hat.out.bel.size)
      have hs3 : w.heap.size + 1 ≤ w3.heap.size := by have := (hat.out.blk.kept b13).lt; omega
      have b13 := hid b13
      have own3 := hid own3
      clear Fq B P b12 b1 b2 b3
      have hm : ts.length + 1 ≤ maxLen := by simp only [maxLen]; omega
      have N5 := hid (news5 w3)
      go_wp2_with (at_builtin; refine wpList_append_own _ rfl _ _ 23 rfl (w.heap.size + 1) 35 i0 (tokV 0 [] 0 0 0) 5 48 Tryd.underlying23 hi z0 z1 z2 rfl (by decide) _ ts.length (cellsT ts) rfl ((own3.out.alloc _).alloc _) ⟨w3.heap.size + 1, 0, none⟩ 1 1 (tokC k t n q.1 q.2) rfl rfl (N5.out _ k t n q.1 q.2) (one5 _ _ _ _ _) hm (by omega) (by simp only [World.size_alloc]; omega) ?_)
      intro v' w4 g1 g2 _
      have M : Hid (Mid2 w w3 w4 v' ts ⟨k, t, n, q.1, q.2⟩) := hid (mid2 hat.out b13.out ⟨k, t, n, q.1, q.2⟩ g1 g2)
      have kt := M.out.tok
      have kf := M.out.blk
      have m0 : w4.cell? ⟨w3.heap.size, 0, none⟩ = some (.int .i64 k) := kt.cell 0
      have m1 : w4.cell? ⟨w3.heap.size, 1, none⟩ = some (.string (bstr t)) := kt.cell 1
      have n0 : w4.cell? ⟨w.heap.size, 0, none⟩ = some (.int .i64 0) := kf.cell 0
      have n1 : w4.cell? ⟨w.heap.size, 1, none⟩ = some (.int .i64 0) := kf.cell 1
      have n2 : w4.cell? ⟨w.heap.size, 2, none⟩ = some (.int .i64 0) := kf.cell 2
      have n3 : ∀ j, w4.frozen? ⟨w.heap.size, j, none⟩ = false := kf.frozen
      clear g1 g2 kt kf
      by_cases hk : k = 0
      · have kz : (((k : Nat) : Int) == 0) = true := by rw [hk]; rfl
        have L : Hid (lexL l = .ok (ts ++ [⟨k, t, n, q.1, q.2⟩])) := hid (by rw [hat.out.lex, stp.out, if_pos hk]; rfl)
        clear hk
        go_wp2
        try simp only [Exit.inBlock, Exit.then]
        refine bodyPost_ret (results_tmp_row (P := Tryd.prog) rfl _ _ w.heap.size _ _ _ _ rfl (M.out.blk.set3 _ _ _) Tryd.underlying26 rfl (by kernel_rfl)) rfl ?_
        refine ⟨_, rfl, ?_, below_set3 M.out.bel (Nat.le_refl _) _ _ _⟩
        rw [LexAns, L.out]
        exact ⟨v', rfl, own_base (own_set3 M.out.own (by omega) _ _ _) (by omega)⟩
      · have kz : (((k : Nat) : Int) == 0) = false := by rw [beq_eq_false_iff_ne]; omega
        rcases fs.out with ⟨h0, _⟩ | ⟨_, t1, ⟨r2, ht⟩, _⟩
        · exact absurd h0 hk
        · have L : Hid (lexL l = preT (ts ++ [⟨k, t, n, q.1, q.2⟩]) (lexF ((r1.drop t.length).length + 1) (r1.drop t.length) (adv q t))) := hid (by rw [hat.out.lex, stp.out, if_neg hk, preT_app])
          have tl : t.length + r2.length = r1.length := by have := congrArg List.length ht; simp at this; omega
          have dl : (r1.drop t.length).length = r1.length - t.length := List.length_drop
          have x3 := hid (extract_bstr r1 t.length r1.length rfl)
          have s3 := bstr_size r1
          have s4 := bstr_size t
          have aq2 := adv_le2 q t
          have P2 := fun W => behind_any q t (by omega) W
          generalize adv q t = q2 at *
          clear hk fs stp ht
          generalize r1.drop t.length = r3 at *
          go_wp2_with fail
          refine (P2 _).mono ?_
          rintro e w5 ⟨rfl, b5⟩
          have c1 : w5.cell? ⟨w3.heap.size, 1, none⟩ = some (.string (bstr t)) := (M.out.tok.kept b5).cell 1
          have N : Hid (At l w w5 r3 q2 (ts ++ [⟨k, t, n, q.1, q.2⟩]) v') := hid ⟨own_below M.out.own b5, M.out.blk.kept b5, M.out.bel.trans (b5.mono M.out.bel.size), by rw [L.out], by simp; omega, by omega, by omega⟩
          go_wp2
          refine ⟨⟨r3, q2, ts ++ [⟨k, t, n, q.1, q.2⟩], (by rw [← hdl]; exact congrArg _ x3.out), rfl, rfl, N⟩, ?_⟩
          simp only [strLen]
          rw [← hdl, x3.out, bstr_size, bstr_size]
          omega
end Go.Proofs.YtdankjkmgcclhaaDoor
