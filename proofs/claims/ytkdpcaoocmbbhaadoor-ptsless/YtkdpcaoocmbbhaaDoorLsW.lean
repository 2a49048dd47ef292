/- The walk of PtsLess. -/
import Derived.Test.YtkdpcaoocmbbhaaDoorLt
import Derived.Test.YtkdpcaoocmbbhaaDoorLf
import Derived.Test.YtkdpcaoocmbbhaaDoorM11
import Derived.Test.YtkdpcaoocmbbhaaDoorM07
import Derived.Test.YtkdpcaoocmbbhaaDoorM12
import Derived.Test.YtkdpcaoocmbbhaaDoorM09
import Derived.Test.YtkdpcaoocmbbhaaDoorM13
import Derived.Test.YtkdpcaoocmbbhaaDoorSt
namespace Go.Proofs.YtkdpcaoocmbbhaaDoor
open Go.ChangeShapes Go.WideShapes Go.ChangeAt Go.RowKit Go.Deep
set_option linter.unusedVariables false
set_option linter.unusedSimpArgs false

theorem size28 : (Tryd.prog.info? 28).map (·.size) = some 5 := by kernel_rfl
theorem info40 : (Tryd.prog.info? 40).map (fun i => (i.zero, i.size, i.bytes)) = some (some (.agg #[.slice none 0 0, .slice none 0 0, .int .i64 0]), 3, 56) := by kernel_rfl
theorem info50 : (Tryd.prog.info? 50).map (fun i => (i.zero, i.size, i.bytes)) = some (some (.agg #[.int .i64 0, .int .i64 0, .int .i64 0, .int .i64 0, .int .i64 0, .int .i64 0, .slice none 0 0, .slice none 0 0]), 8, 96) := by kernel_rfl
theorem ones5 {v0 v1 v2 v3 v4 : Value} (h0 : v0.oneCell' = true) (h1 : v1.oneCell' = true) (h2 : v2.oneCell' = true) (h3 : v3.oneCell' = true) (h4 : v4.oneCell' = true) : ∀ v ∈ [v0, v1, v2, v3, v4], v.oneCell' = true := by
  intro v hv
  simp only [List.mem_cons, List.not_mem_nil, or_false] at hv
  rcases hv with rfl | rfl | rfl | rfl | rfl <;> assumption

/-- While PtsLess works: what lies below N stays. -/
structure LsD (w : World) (c : Cd) (l : List Value) (sb N : Nat) (v0 v1 v2 : Value) (R : List (List Nat)) (V : Nat → Value) (B : Nat → Nat) (X : World) : Prop where
  b0 : VarAt X w.heap.size l 28
  bs : VarAt X sb [v0, v1, v2] 35
  sets : ∃ base top, top ≤ N ∧ SetsM X base top c.threads.length c.sites.length v0 v1 v2 R V B
  bel : Below w.heap.size w X
  lt : w.heap.size < N ∧ sb < N ∧ N ≤ X.heap.size
section
variable {w X X' : World} {c : Cd} {l : List Value} {sb N : Nat} {v0 v1 v2 : Value} {R : List (List Nat)} {V : Nat → Value} {B : Nat → Nat}
theorem LsD.kept (h : LsD w c l sb N v0 v1 v2 R V B X) (k : Below X.heap.size X X') : LsD w c l sb N v0 v1 v2 R V B X' := by
  obtain ⟨base, top, h1, hs⟩ := h.sets
  exact ⟨h.b0.kept k, h.bs.kept k, ⟨base, top, h1, hs.kept k⟩, h.bel.trans (k.mono h.bel.size), ⟨h.lt.1, h.lt.2.1, Nat.le_trans h.lt.2.2 k.size⟩⟩
theorem LsD.side {p : Nat} (h : LsD w c l sb N v0 v1 v2 R V B X) (ht : Turned p X X') (hp : N ≤ p) : LsD w c l sb N v0 v1 v2 R V B X' := by
  obtain ⟨base, top, h1, hs⟩ := h.sets
  have := h.lt
  exact ⟨ht.var h.b0 (by omega), ht.var h.bs (by omega), ⟨base, top, h1, hs.touch ht.t1 (fun b h1 h2 e => by omega)⟩, ht.below h.bel (by omega), ⟨this.1, this.2.1, by rw [ht.size]; exact this.2.2⟩⟩
theorem LsD.grown {T : Nat → Prop} (h : LsD w c l sb N v0 v1 v2 R V B X) (ht : Touch T X X') (hp : ∀ b, T b → N ≤ b) : LsD w c l sb N v0 v1 v2 R V B X' := by
  obtain ⟨base, top, h1, hs⟩ := h.sets
  have := h.lt
  exact ⟨h.b0.touch ht (fun e => by have := hp _ e; omega), h.bs.touch ht (fun e => by have := hp _ e; omega), ⟨base, top, h1, hs.touch ht (fun b h1 h2 e => by have := hp _ e; omega)⟩, below_touch h.bel ht (fun i hi e => by have := hp _ e; omega) (Nat.le_refl _), ⟨this.1, this.2.1, Nat.le_trans this.2.2 ht.size⟩⟩
end
theorem own_none (w : World) (e : TypeId) (s : Nat) : (w.alloc (.cells #[] e)).ownsRow w.heap.size e s (.slice (some ⟨w.heap.size, 0, none⟩) 0 0) 0 [] :=
  ⟨by simp, .inr ⟨w.heap.size, 0, #[], rfl, Nat.le_refl _, heap_alloc_new _ _, Nat.le_refl _, Nat.zero_le _, by simp, by simp⟩⟩
theorem bd_ones {w : World} {v : Value} {l : List Bd} (h : RowOf Bd.cells 3 Bd.okW w v l) : ∀ u ∈ l.flatMap Bd.cells, u.oneCell' = true := by
  intro u hu
  obtain ⟨x, hx, hu⟩ := List.mem_flatMap.1 hu
  obtain ⟨a, p, e, hr⟩ := RowOf.at h
  obtain ⟨k, hk, hkx⟩ := List.getElem_of_mem hx
  obtain ⟨y, b, off, hy, -, -, -, ok⟩ := hr k hk
  have : y = x := by
    rw [List.getElem?_eq_getElem hk, hkx] at hy
    exact (Option.some.inj hy).symm
  subst this
  obtain ⟨_, _, e1⟩ := ok.2.1.form
  obtain ⟨_, _, e2⟩ := ok.2.2.form
  unfold Bd.cells at hu
  rw [e1, e2] at hu
  simp only [List.mem_cons, List.not_mem_nil, or_false] at hu
  rcases hu with rfl | rfl | rfl <;> rfl
theorem ins_ones {w : World} {v : Value} {l : List Ins} (h : RowOf Ins.cells 8 Ins.okW w v l) : ∀ u ∈ l.flatMap Ins.cells, u.oneCell' = true := by
  intro u hu
  obtain ⟨x, hx, hu⟩ := List.mem_flatMap.1 hu
  obtain ⟨a, p, e, hr⟩ := RowOf.at h
  obtain ⟨k, hk, hkx⟩ := List.getElem_of_mem hx
  obtain ⟨y, b, off, hy, -, -, -, ok⟩ := hr k hk
  have : y = x := by
    rw [List.getElem?_eq_getElem hk, hkx] at hy
    exact (Option.some.inj hy).symm
  subst this
  obtain ⟨_, _, e1⟩ := ok.2.1.form
  obtain ⟨_, _, e2⟩ := ok.2.2.form
  unfold Ins.cells at hu
  rw [e1, e2] at hu
  simp only [List.mem_cons, List.not_mem_nil, or_false] at hu
  rcases hu with rfl | rfl | rfl | rfl | rfl | rfl | rfl | rfl <;> rfl
theorem flat_small {nT nS : Nat} {R : List (List Nat)} (h : SmS nT nS R) : (flatR nT nS R).length ≤ 300000 := by
  have hr : ∀ (f : Nat → List Nat), (∀ k, (f k).length ≤ 1001) → ∀ n, ((List.range n).flatMap f).length ≤ 1001 * n := fun f hf n => by
    induction n with
    | zero => simp
    | succ n ih => rw [range_flat, List.length_append]; have := hf n; omega
  have hw : ∀ r, (rowL R r).length ≤ 1001 := fun r => by
    have := h.r r
    show (R.getD r []).length + 1 ≤ 1001
    omega
  have a := hr (rowL R) hw nT
  have b := hr (fun k => rowL R (nT + 1 + k)) (fun k => hw _) nS
  have c := h.r nT
  have d := h.t
  have e := h.s
  unfold flatR flatB flatA
  simp only [List.length_append, List.length_cons, List.length_nil]
  omega
theorem size24 : (Tryd.prog.info? 24).map (·.size) = some 1 := by kernel_rfl
theorem size38 : (Tryd.prog.info? 38).map (·.size) = some 1 := by kernel_rfl
theorem size48 : (Tryd.prog.info? 48).map (·.size) = some 1 := by kernel_rfl

set_option maxRecDepth 100000 in
set_option maxHeartbeats 4000000 in
theorem walkLess (v0 : Value) (c : Cd) (n1 n2 : Int) (w : World) (w0 : IsCd w v0 c) (hTab : Tab w) :
    Calls Tryd.prog 7 #[v0, .int .i64 n1, .int .i64 n2] w fun e w' => e = .returned (.bool true) ∧ Below w.heap.size w w' := by
  obtain ⟨rfl, hc⟩ := w0
  obtain ⟨a0, p0, a1, p1, a2, p2, a3, p3, a4, p4, e0, e1, e2, e3, e4⟩ := cd_open hc
  have A9 : ∀ W (h : Below w.heap.size w W), Calls Tryd.prog 9 #[.agg #[c.rv, c.gv, c.tv, c.ev, c.cv]] W fun e w' => (e = .returned (.bool true) ∨ SmallP c ∧ e = .returned (.bool false)) ∧ Below W.heap.size W w' := fun W h => (great_any c W (Cd.kept hc h)).mono (fun e w' k => by
    obtain ⟨q, h1, h2, h3⟩ := k
    refine ⟨?_, h3⟩
    cases q
    · exact .inr ⟨h2 rfl, h1⟩
    · exact .inl h1)
  have A13 : ∀ (s : SmallP c) W (h : Below w.heap.size w W), Calls Tryd.prog 13 #[.agg #[c.rv, c.gv, c.tv, c.ev, c.cv]] W fun e w' => (GoodP c ∧ e = .returned (.bool true) ∨ e = .returned (.bool false)) ∧ Below W.heap.size W w' := fun s W h => (rgood_says c W (Cd.kept hc h) s).mono (fun e w' k => by
    obtain ⟨q, h1, h2, h3⟩ := k
    refine ⟨?_, h3⟩
    cases q
    · exact .inr h1
    · exact .inl ⟨h2.1 rfl, h1⟩)
  have A11 : ∀ (s : SmallP c) W (h : Below w.heap.size w W), Calls Tryd.prog 11 #[.agg #[c.rv, c.gv, c.tv, c.ev, c.cv]] W (SolveP c W) := fun s W h => solve_any c W (Cd.kept hc h) s (hTab.kept h)
  have A22 := fun (d : Cd) W (h : Below w.heap.size w W) (ok : d.okW W) (s : SmallP d) => solve_any d W ok s (hTab.kept h)
  have HC := hid hc
  obtain ⟨ta, tp, te, htr⟩ := RowOf.at hc.2.2.1
  rw [e2] at te
  obtain ⟨rfl, -, rfl⟩ := Value.slice.inj te
  have E0 := hid e0
  have E1 := hid e1
  have E2 := hid e2
  have E3 := hid e3
  have E4 := hid e4
  rw [e0, e1, e2, e3, e4] at A9 A13 A11
  rw [e0, e1, e2, e3, e4]
  replace A9 := hid A9
  replace A13 := hid A13
  replace A11 := hid A11
  replace A22 := hid A22
  have CA := hid (fun W (h : Below w.heap.size w W) => alive_any W (hTab.kept h))
  have B := hid ((Below.refl w.heap.size w).alloc (Nat.le_refl _) (.cells #[.slice a0 c.recs.length p0, .slice a1 c.globs.length p1, .slice a2 c.threads.length p2, .slice a3 c.sites.length p3, .slice a4 c.secs.length p4] 28))
  have KC := hid (VarAt.new w [.slice a0 c.recs.length p0, .slice a1 c.globs.length p1, .slice a2 c.threads.length p2, .slice a3 c.sites.length p3, .slice a4 c.secs.length p4] 28)
  obtain ⟨y0, y1, y2, y3, y4⟩ := cells5 KC.out
  clear hc e0 e1 e2 e3 e4 te
  by_cases hn0 : n1 < 0
  · clear htr A11 A22
    go_enter Tryd.func7, Tryd.ntmps7
    go_wp2_with (first
    | (go_at_call 8; refine Calls.mono (CA.out _ B.out) ?_; rintro e w1 ⟨rfl, hb⟩; replace B := hid (B.out.trans (hb.mono B.out.size)); replace KC := hid (KC.out.kept hb); clear hb CA y0 y1 y2 y3 y4; obtain ⟨y0, y1, y2, y3, y4⟩ := cells5 KC.out)
    | (go_at_call 9; refine Calls.mono (A9.out _ B.out) ?_; rintro e w2 ⟨(rfl | ⟨hq, rfl⟩), hb⟩ <;> (replace B := hid (B.out.trans (hb.mono B.out.size)); replace KC := hid (KC.out.kept hb); clear hb A9 y0 y1 y2 y3 y4; obtain ⟨y0, y1, y2, y3, y4⟩ := cells5 KC.out; try replace hq := hid hq))
    | (go_at_call 13; refine Calls.mono (A13.out hq.out _ B.out) ?_; rintro e w3 ⟨(⟨hg, rfl⟩ | rfl), hb⟩ <;> (replace B := hid (B.out.trans (hb.mono B.out.size)); replace KC := hid (KC.out.kept hb); clear hb A13 y0 y1 y2 y3 y4; obtain ⟨y0, y1, y2, y3, y4⟩ := cells5 KC.out; try replace hg := hid hg)))
    all_goals
      go_ret
      exact ⟨rfl, B.out⟩
  by_cases hn1 : (c.threads.length : Int) ≤ n1
  · clear htr A11 A22
    go_enter Tryd.func7, Tryd.ntmps7
    go_wp2_with (first
    | (go_at_call 8; refine Calls.mono (CA.out _ B.out) ?_; rintro e w1 ⟨rfl, hb⟩; replace B := hid (B.out.trans (hb.mono B.out.size)); replace KC := hid (KC.out.kept hb); clear hb CA y0 y1 y2 y3 y4; obtain ⟨y0, y1, y2, y3, y4⟩ := cells5 KC.out)
    | (go_at_call 9; refine Calls.mono (A9.out _ B.out) ?_; rintro e w2 ⟨(rfl | ⟨hq, rfl⟩), hb⟩ <;> (replace B := hid (B.out.trans (hb.mono B.out.size)); replace KC := hid (KC.out.kept hb); clear hb A9 y0 y1 y2 y3 y4; obtain ⟨y0, y1, y2, y3, y4⟩ := cells5 KC.out; try replace hq := hid hq))
    | (go_at_call 13; refine Calls.mono (A13.out hq.out _ B.out) ?_; rintro e w3 ⟨(⟨hg, rfl⟩ | rfl), hb⟩ <;> (replace B := hid (B.out.trans (hb.mono B.out.size)); replace KC := hid (KC.out.kept hb); clear hb A13 y0 y1 y2 y3 y4; obtain ⟨y0, y1, y2, y3, y4⟩ := cells5 KC.out; try replace hg := hid hg)))
    all_goals
      go_ret
      exact ⟨rfl, B.out⟩
  obtain ⟨i, rfl⟩ : ∃ i : Nat, n1 = i := ⟨n1.toNat, by omega⟩
  have hin : i < c.threads.length := by omega
  obtain ⟨b, thb, toff, hb, rfl, tlt0, tra, tok⟩ := htr i hin
  obtain ⟨ac, pc, ec, hcr⟩ := RowOf.at tok.2.2
  have c10 : w.cell? ⟨thb, toff + i * 3 + 1, none⟩ = some b.cv := tra 1 _ rfl
  rw [ec] at c10
  have c1 := hid c10
  have tlt := hid tlt0
  have hiI : (i : Int) < (c.threads.length : Int) := by omega
  have HB := hid hb
  have HCR := hid hcr
  have HTR := hid htr
  have TOK := hid tok
  have EC := hid ec
  clear htr hb tlt0 tra c10 hcr tok ec hn0 hn1
  by_cases hm0 : n2 < 0
  · clear A11 A22
    go_enter Tryd.func7, Tryd.ntmps7
    go_wp2_with (first
    | (go_at_call 8; refine Calls.mono (CA.out _ B.out) ?_; rintro e w1 ⟨rfl, hb⟩; replace B := hid (B.out.trans (hb.mono B.out.size)); replace KC := hid (KC.out.kept hb); clear hb CA y0 y1 y2 y3 y4; obtain ⟨y0, y1, y2, y3, y4⟩ := cells5 KC.out)
    | (go_at_call 9; refine Calls.mono (A9.out _ B.out) ?_; rintro e w2 ⟨(rfl | ⟨hq, rfl⟩), hb⟩ <;> (replace B := hid (B.out.trans (hb.mono B.out.size)); replace KC := hid (KC.out.kept hb); clear hb A9 y0 y1 y2 y3 y4; obtain ⟨y0, y1, y2, y3, y4⟩ := cells5 KC.out; try replace hq := hid hq))
    | (go_at_call 13; refine Calls.mono (A13.out hq.out _ B.out) ?_; rintro e w3 ⟨(⟨hg, rfl⟩ | rfl), hb⟩ <;> (replace B := hid (B.out.trans (hb.mono B.out.size)); replace KC := hid (KC.out.kept hb); clear hb A13 y0 y1 y2 y3 y4; obtain ⟨y0, y1, y2, y3, y4⟩ := cells5 KC.out; have k1 := (B.out.cell tlt.out).trans c1.out; try replace hg := hid hg)))
    all_goals
      go_ret
      exact ⟨rfl, B.out⟩
  by_cases hm1 : (b.code.length : Int) ≤ n2
  · clear A11 A22
    go_enter Tryd.func7, Tryd.ntmps7
    go_wp2_with (first
    | (go_at_call 8; refine Calls.mono (CA.out _ B.out) ?_; rintro e w1 ⟨rfl, hb⟩; replace B := hid (B.out.trans (hb.mono B.out.size)); replace KC := hid (KC.out.kept hb); clear hb CA y0 y1 y2 y3 y4; obtain ⟨y0, y1, y2, y3, y4⟩ := cells5 KC.out)
    | (go_at_call 9; refine Calls.mono (A9.out _ B.out) ?_; rintro e w2 ⟨(rfl | ⟨hq, rfl⟩), hb⟩ <;> (replace B := hid (B.out.trans (hb.mono B.out.size)); replace KC := hid (KC.out.kept hb); clear hb A9 y0 y1 y2 y3 y4; obtain ⟨y0, y1, y2, y3, y4⟩ := cells5 KC.out; try replace hq := hid hq))
    | (go_at_call 13; refine Calls.mono (A13.out hq.out _ B.out) ?_; rintro e w3 ⟨(⟨hg, rfl⟩ | rfl), hb⟩ <;> (replace B := hid (B.out.trans (hb.mono B.out.size)); replace KC := hid (KC.out.kept hb); clear hb A13 y0 y1 y2 y3 y4; obtain ⟨y0, y1, y2, y3, y4⟩ := cells5 KC.out; have k1 := (B.out.cell tlt.out).trans c1.out; try replace hg := hid hg)))
    all_goals
      go_ret
      exact ⟨rfl, B.out⟩
  obtain ⟨j, rfl⟩ : ∃ j : Nat, n2 = j := ⟨n2.toNat, by omega⟩
  have hjn : j < b.code.length := by omega
  obtain ⟨x, cb, coff, hx, rfl, clt0, cra, xok⟩ := HCR.out j hjn
  have x00 : w.cell? ⟨cb, coff + j * 8, none⟩ = some (.int .i64 x.op) := cra 0 _ rfl
  have x0 := hid x00
  have clt := hid clt0
  have hjI : (j : Int) < (b.code.length : Int) := by omega
  have HX := hid hx
  clear x00 clt0 cra hx hm0 hm1 xok
  go_enter Tryd.func7, Tryd.ntmps7
  refine wp_seq_k (fun K hK => ?_)
  replace hK := hid hK
  go_wp2_with fail
  refine hK.out _ _ ?_
  clear hK K
  refine wp_seq_k (fun K hK => ?_)
  replace hK := hid hK
  go_wp2_with (first
    | (go_at_call 8; refine Calls.mono (CA.out _ B.out) ?_; rintro e w1 ⟨rfl, hb⟩; replace B := hid (B.out.trans (hb.mono B.out.size)); replace KC := hid (KC.out.kept hb); clear hb CA y0 y1 y2 y3 y4; obtain ⟨y0, y1, y2, y3, y4⟩ := cells5 KC.out)
    | (go_at_call 9; refine Calls.mono (A9.out _ B.out) ?_; rintro e w2 ⟨(rfl | ⟨hq, rfl⟩), hb⟩ <;> (replace B := hid (B.out.trans (hb.mono B.out.size)); replace KC := hid (KC.out.kept hb); clear hb A9 y0 y1 y2 y3 y4; obtain ⟨y0, y1, y2, y3, y4⟩ := cells5 KC.out; try replace hq := hid hq))
    | (go_at_call 13; refine Calls.mono (A13.out hq.out _ B.out) ?_; rintro e w3 ⟨(⟨hg, rfl⟩ | rfl), hb⟩ <;> (replace B := hid (B.out.trans (hb.mono B.out.size)); replace KC := hid (KC.out.kept hb); clear hb A13 y0 y1 y2 y3 y4; obtain ⟨y0, y1, y2, y3, y4⟩ := cells5 KC.out; have k1 := (B.out.cell tlt.out).trans c1.out; try replace hg := hid hg)))
  refine hK.out _ _ ?_
  clear hK K
  refine wp_seq_k (fun K hK => ?_)
  replace hK := hid hK
  go_wp2_with (first
    | (go_at_call 8; refine Calls.mono (CA.out _ B.out) ?_; rintro e w1 ⟨rfl, hb⟩; replace B := hid (B.out.trans (hb.mono B.out.size)); replace KC := hid (KC.out.kept hb); clear hb CA y0 y1 y2 y3 y4; obtain ⟨y0, y1, y2, y3, y4⟩ := cells5 KC.out)
    | (go_at_call 9; refine Calls.mono (A9.out _ B.out) ?_; rintro e w2 ⟨(rfl | ⟨hq, rfl⟩), hb⟩ <;> (replace B := hid (B.out.trans (hb.mono B.out.size)); replace KC := hid (KC.out.kept hb); clear hb A9 y0 y1 y2 y3 y4; obtain ⟨y0, y1, y2, y3, y4⟩ := cells5 KC.out; try replace hq := hid hq))
    | (go_at_call 13; refine Calls.mono (A13.out hq.out _ B.out) ?_; rintro e w3 ⟨(⟨hg, rfl⟩ | rfl), hb⟩ <;> (replace B := hid (B.out.trans (hb.mono B.out.size)); replace KC := hid (KC.out.kept hb); clear hb A13 y0 y1 y2 y3 y4; obtain ⟨y0, y1, y2, y3, y4⟩ := cells5 KC.out; have k1 := (B.out.cell tlt.out).trans c1.out; try replace hg := hid hg)))
  any_goals
    go_ret
    exact ⟨rfl, B.out⟩
  refine hK.out _ _ ?_
  clear hK K
  have z0 := (B.out.cell clt.out).trans x0.out
  refine wp_seq_k (fun K hK => ?_)
  go_cut [] (fun wx => Hid (VarAt wx w.heap.size [.slice a0 c.recs.length p0, .slice a1 c.globs.length p1, .slice (some ⟨thb, toff, none⟩) c.threads.length p2, .slice a3 c.sites.length p3, .slice a4 c.secs.length p4] 28) ∧ Hid (Below w.heap.size w wx) ∧ Hid (x.op = 1 ∨ x.op = 5 ∨ x.op = 6))
  case first =>
    by_cases h1 : x.op = 1
    · go_wp2_with fail
      go_meet
      case rel => exact ⟨KC, B, hid (.inl h1)⟩
    by_cases h5 : x.op = 5
    · go_wp2_with fail
      go_meet
      case rel => exact ⟨KC, B, hid (.inr (.inl h5))⟩
    by_cases h6 : x.op = 6
    · go_wp2_with fail
      go_meet
      case rel => exact ⟨KC, B, hid (.inr (.inr h6))⟩
    go_wp2_with fail
    all_goals first
      | (go_ret; exact ⟨rfl, B.out⟩)
      | (rename_i hz; exfalso; have e1 : (x.op != 1) = true := (by simpa using h1); have e5 : (x.op != 5) = true := (by simpa using h5); have e6 : (x.op != 6) = true := (by simpa using h6); rw [e1, e5, e6] at hz; simp at hz)
  case rest =>
    refine hK _ _ ?_
    clear hK
    clear B KC y0 y1 y2 y3 y4 z0 k1
    obtain ⟨KC, B, OP⟩ := hcut
    have G := hid hg.out
    have DS := hid (A11.out hq.out)
    have SC := hid hq.out
    clear A11 hq hg
    obtain ⟨y0, y1, y2, y3, y4⟩ := cells5 KC.out
    refine wp_seq_k (fun K hK => ?_)
    replace hK := hid hK
    go_wp2_with (first
      | (go_at_call 11; refine Calls.mono (DS.out _ B.out) ?_; rintro _ y ⟨v0, v1, v2, rfl, bl, hs, -⟩; obtain ⟨R, V, BB, sm, le⟩ := hs G.out; have SM := hid sm; have LE := hid le; replace B := hid (B.out.trans (bl.mono B.out.size)); replace KC := hid (KC.out.kept bl); have VS := hid (VarAt.new y [.slice none 0 0, .slice none 0 0, .slice none 0 0] 35); obtain ⟨s0, m0, q0, s1, m1, q1, s2, m2, q2, rfl, rfl, rfl⟩ := sm.ones; clear sm le bl hs DS y0 y1 y2 y3 y4)
      | (refine wl_store_box 35 _ _ rfl rfl _ rfl [.slice s0 m0 q0, .slice s1 m1 q1, .slice s2 m2 q2] rfl size35 (ones3 rfl rfl rfl) _ _ VS.out rfl rfl ?_; intro z hv ht))
    try simp only [Act.put]
    refine hK.out _ _ ?_
    clear hK K
    have ba := (Below.refl y.heap.size y).alloc (Nat.le_refl _) (.cells #[.slice none 0 0, .slice none 0 0, .slice none 0 0] 35)
    have kl := KC.out.lt
    obtain ⟨N, hN⟩ : ∃ N, N = z.heap.size := ⟨_, rfl⟩
    have sz := ht.size
    have sa := World.size_alloc y (.cells #[.slice none 0 0, .slice none 0 0, .slice none 0 0] 35)
    have TD := hid (show LsD w c [.slice a0 c.recs.length p0, .slice a1 c.globs.length p1, .slice (some ⟨thb, toff, none⟩) c.threads.length p2, .slice a3 c.sites.length p3, .slice a4 c.secs.length p4] y.heap.size N (.slice s0 m0 q0) (.slice s1 m1 q1) (.slice s2 m2 q2) R V BB z from ⟨ht.var (KC.out.kept ba) (by omega), hv, ⟨_, _, by omega, (SM.out.kept ba).touch ht.t1 (fun b h1 h2 e => by omega)⟩, ht.below (B.out.trans (ba.mono B.out.size)) B.out.size, ⟨by omega, by omega, by omega⟩⟩)
    clear ba kl hv ht VS SM B KC sz sa hN
    generalize y.heap.size = sb at *
    obtain ⟨y0, y1, y2, y3, y4⟩ := cells5 TD.out.b0
    have VD := hid (VarAt.new z [.slice none 0 0, .slice none 0 0, .slice none 0 0, .slice none 0 0, .slice none 0 0] 28)
    refine wp_seq_k (fun K hK => ?_)
    replace hK := hid hK
    go_wp2_with (refine wl_store_box 28 _ _ rfl rfl _ rfl [.slice a0 c.recs.length p0, .slice a1 c.globs.length p1, .slice (some ⟨thb, toff, none⟩) c.threads.length p2, .slice a3 c.sites.length p3, .slice a4 c.secs.length p4] rfl size28 (ones5 rfl rfl rfl rfl rfl) _ _ VD.out rfl rfl ?_; intro z1 hv ht)
    try simp only [Act.put]
    refine hK.out _ _ ?_
    clear hK K y0 y1 y2 y3 y4
    replace VD := hid hv
    have hdb := TD.out.lt.2.2
    replace TD := hid ((TD.out.kept ((Below.refl z.heap.size z).alloc (Nat.le_refl _) (.cells #[.slice none 0 0, .slice none 0 0, .slice none 0 0, .slice none 0 0, .slice none 0 0] 28))).side ht hdb)
    clear hv ht
    generalize z.heap.size = db at *
    obtain ⟨y0, y1, y2, y3, y4⟩ := cells5 TD.out.b0
    have ly := TD.out.b0.lt
    have ld := VD.out.lt
    have BA := (Below.refl z1.heap.size z1).alloc (Nat.le_refl _) (.cells #[] 40)
    have ON := hid (own_none z1 40 3)
    have RW0 := HC.out.2.2.1
    rw [E2.out] at RW0
    have TR := RowOf.kept RW0 (TD.out.bel.trans (BA.mono TD.out.bel.size)) (fun x h => Bd.kept h (TD.out.bel.trans (BA.mono TD.out.bel.size)))
    have TON := hid (bd_ones RW0)
    replace TR := hid TR
    have TD1 := hid (TD.out.kept BA)
    have VD1 := hid (VD.out.kept BA)
    have hb1 := hid (show z1.heap.size ≤ (z1.alloc (.cells #[] 40)).heap.size by simp)
    have hnT := G.out.l3
    clear BA RW0
    refine wp_seq_k (fun K hK => ?_)
    replace hK := hid hK
    go_wp2_with (first
      | (at_builtin; refine wl_append_row rfl _ _ 24 rfl z1.heap.size 40 (.agg #[.slice none 0 0, .slice none 0 0, .int .i64 0]) 3 56 Tryd.underlying24 info40 rfl (by decide) _ rfl 0 [] ON.out _ rfl (cells := Bd.cells) (ok := Bd.okW) (fun _ => rfl) c.threads TR.out TON.out (by omega) (by decide) hb1.out ?_; intro v' w5 o5 g5 h5; simp only [Nat.zero_add, List.nil_append] at o5; obtain ⟨g, cap, cur, rfl, hbg, vt, hcap, hmax, hcl, htk⟩ := own_var o5 (by omega); have tg := grown_touch g5 ON.out; have VD5 := VD1.out.touch tg (fun e => by have := Option.some.inj (show some z1.heap.size = some db from e); omega))
      | (refine wl_store_cell 24 _ _ rfl rfl db 2 rfl _ rfl size24 rfl _ _ VD5 (by simp) ?_; intro z2 hv ht))
    try simp only [Act.put]
    refine hK.out _ _ ?_
    clear hK K y0 y1 y2 y3 y4
    have hzN := TD.out.lt.2.2
    replace TD := hid ((TD1.out.grown tg (fun b e => by have := Option.some.inj (show some z1.heap.size = some b from e); omega)).side ht hdb)
    have VT := hid (ht.var vt (by omega))
    replace VD : Hid (VarAt z2 db [.slice a0 c.recs.length p0, .slice a1 c.globs.length p1, .slice (some ⟨g, 0, none⟩) c.threads.length cap, .slice a3 c.sites.length p3, .slice a4 c.secs.length p4] 28) := hid hv
    have HCT := hid (And.intro hcap (And.intro hmax (And.intro hcl htk)))
    have hgN := hid (show N ≤ g by omega)
    have hgd := hid (show db ≠ g by omega)
    have hil := hid (show i * 3 + 1 < cur.length by
      rw [hcl]
      have : (i + 1) * 3 ≤ cap * 3 := Nat.mul_le_mul_right 3 (by omega)
      omega)
    clear hv ht vt tg o5 g5 h5 VD5 TD1 VD1 ON TR TON hb1 ly ld hcap hmax hcl htk hbg hzN
    have hnK := (G.out.ths i b HB.out).2.2.2.2.1
    have IN0 := TOK.out.2.2
    rw [EC.out] at IN0
    have CON := hid (ins_ones IN0)
    have CR := hid (fun Y (h : LsD w c [.slice a0 c.recs.length p0, .slice a1 c.globs.length p1, .slice (some ⟨thb, toff, none⟩) c.threads.length p2, .slice a3 c.sites.length p3, .slice a4 c.secs.length p4] sb N (.slice s0 m0 q0) (.slice s1 m1 q1) (.slice s2 m2 q2) R V BB Y) => (RowOf.kept IN0 h.bel (fun x k => Ins.kept k h.bel) : RowOf Ins.cells 8 Ins.okW Y (.slice (some ⟨cb, coff, none⟩) b.code.length pc) b.code))
    clear IN0
    have l2 := hid TD.out.lt.2.2
    have l3 := hid VD.out.lt
    have l4 := hid VT.out.lt
    have edr : Hid (z2.drew.heap.size = z2.heap.size) := hid rfl
    refine wp_seq_k (fun K hK => ?_)
    replace hK := hid hK
    go_wp2_with fail
    replace TD := hid (TD.out.kept (Below.refl _ _).drew)
    replace VD := hid (VD.out.kept (Below.refl _ _).drew)
    replace VT := hid (VT.out.kept (Below.refl _ _).drew)
    refine wp_region_held_drew (S := fun (w' : World) => w'.cell? ⟨db, 2, none⟩ = some (.slice (some ⟨g, 0, none⟩) c.threads.length cap) ∧ w'.cell? ⟨w.heap.size, 2, none⟩ = some (.slice (some ⟨thb, toff, none⟩) c.threads.length p2) ∧ w'.cell? ⟨thb, toff + i * 3 + 1, none⟩ = some (.slice (some ⟨cb, coff, none⟩) b.code.length pc)) (by kernel_rfl) (⟨VD.out.cell 2 rfl, TD.out.b0.cell 2 rfl, (TD.out.bel.cell tlt.out).trans c1.out⟩) (fun hHeld => ?_)
    refine wpAnyH_take (i := 0) (oi := { dst := some 77, op := Go.Op.fieldAddr 28 (Go.Operand.tmp 9) 2, type := 0, pos := "law.go:163", after := #[], guard := none }) (v := ?_) rfl (by kernel_rfl) (by kernel_rfl) (by kernel_rfl) (fun _ _ _ h => h) (Or.inl ⟨by rfl, ?_⟩) hHeld ?_
    rotate_left
    · intro w0 hSw; (try dsimp only at hSw); go_simp; (try with_reducible rfl)
    try simp only [Act.put, List.setIfInBounds_toArray, List.set_cons_zero, List.set_cons_succ]
    refine wpAnyH_take (i := 1) (oi := { dst := some 78, op := Go.Op.load 24 (Go.Operand.tmp 77), type := 24, pos := "law.go:163", after := #[{ on := 0, ground := Go.Ground.data }], guard := none }) (v := ?_) rfl (by kernel_rfl) (by kernel_rfl) (by kernel_rfl) (fun _ _ _ h => h) (Or.inl ⟨by rfl, ?_⟩) hHeld ?_
    rotate_left
    · intro w0 hSw; (try dsimp only at hSw); go_simp; (try with_reducible rfl)
    try simp only [Act.put, List.setIfInBounds_toArray, List.set_cons_zero, List.set_cons_succ]
    refine wpAnyH_take (i := 2) (oi := { dst := some 79, op := Go.Op.move (Go.Operand.tmp 1), type := 3, pos := "law.go:163", after := #[], guard := none }) (v := ?_) rfl (by kernel_rfl) (by kernel_rfl) (by kernel_rfl) (fun _ _ _ h => h) (Or.inl ⟨by rfl, ?_⟩) hHeld ?_
    rotate_left
    · intro w0 hSw; (try dsimp only at hSw); go_simp; (try with_reducible rfl)
    try simp only [Act.put, List.setIfInBounds_toArray, List.set_cons_zero, List.set_cons_succ]
    refine wpAnyH_take (i := 4) (oi := { dst := some 81, op := Go.Op.fieldAddr 28 (Go.Operand.tmp 3) 2, type := 0, pos := "law.go:163", after := #[], guard := none }) (v := ?_) rfl (by kernel_rfl) (by kernel_rfl) (by kernel_rfl) (fun _ _ _ h => h) (Or.inl ⟨by rfl, ?_⟩) hHeld ?_
    rotate_left
    · intro w0 hSw; (try dsimp only at hSw); go_simp; (try with_reducible rfl)
    try simp only [Act.put, List.setIfInBounds_toArray, List.set_cons_zero, List.set_cons_succ]
    refine wpAnyH_take (i := 5) (oi := { dst := some 82, op := Go.Op.load 24 (Go.Operand.tmp 81), type := 24, pos := "law.go:163", after := #[{ on := 4, ground := Go.Ground.data }], guard := none }) (v := ?_) rfl (by kernel_rfl) (by kernel_rfl) (by kernel_rfl) (fun _ _ _ h => h) (Or.inl ⟨by rfl, ?_⟩) hHeld ?_
    rotate_left
    · intro w0 hSw; (try dsimp only at hSw); go_simp; (try with_reducible rfl)
    try simp only [Act.put, List.setIfInBounds_toArray, List.set_cons_zero, List.set_cons_succ]
    refine wpAnyH_take (i := 6) (oi := { dst := some 83, op := Go.Op.move (Go.Operand.tmp 1), type := 3, pos := "law.go:163", after := #[], guard := none }) (v := ?_) rfl (by kernel_rfl) (by kernel_rfl) (by kernel_rfl) (fun _ _ _ h => h) (Or.inl ⟨by rfl, ?_⟩) hHeld ?_
    rotate_left
    · intro w0 hSw; (try dsimp only at hSw); go_simp; (try with_reducible rfl)
    try simp only [Act.put, List.setIfInBounds_toArray, List.set_cons_zero, List.set_cons_succ]
    refine wpAnyH_take (i := 7) (oi := { dst := some 84, op := Go.Op.indexAddr 24 (Go.Operand.tmp 82) (Go.Operand.tmp 83), type := 0, pos := "law.go:163", after := #[{ on := 5, ground := Go.Ground.data }, { on := 6, ground := Go.Ground.data }], guard := none }) (v := ?_) rfl (by kernel_rfl) (by kernel_rfl) (by kernel_rfl) (fun _ _ _ h => h) (Or.inl ⟨by rfl, ?_⟩) hHeld ?_
    rotate_left
    · intro w0 hSw; (try dsimp only at hSw); go_simp; (try with_reducible rfl)
    try simp only [Act.put, List.setIfInBounds_toArray, List.set_cons_zero, List.set_cons_succ]
    refine wpAnyH_take (i := 8) (oi := { dst := some 85, op := Go.Op.fieldAddr 40 (Go.Operand.tmp 84) 1, type := 0, pos := "law.go:163", after := #[{ on := 7, ground := Go.Ground.data }], guard := none }) (v := ?_) rfl (by kernel_rfl) (by kernel_rfl) (by kernel_rfl) (fun _ _ _ h => h) (Or.inl ⟨by rfl, ?_⟩) hHeld ?_
    rotate_left
    · intro w0 hSw; (try dsimp only at hSw); go_simp; (try with_reducible rfl)
    try simp only [Act.put, List.setIfInBounds_toArray, List.set_cons_zero, List.set_cons_succ]
    refine wpAnyH_take (i := 9) (oi := { dst := some 86, op := Go.Op.load 38 (Go.Operand.tmp 85), type := 38, pos := "law.go:163", after := #[{ on := 8, ground := Go.Ground.data }], guard := none }) (v := ?_) rfl (by kernel_rfl) (by kernel_rfl) (by kernel_rfl) (fun _ _ _ h => h) (Or.inl ⟨by rfl, ?_⟩) hHeld ?_
    rotate_left
    · intro w0 hSw; (try dsimp only at hSw); go_simp; (try with_reducible rfl)
    try simp only [Act.put, List.setIfInBounds_toArray, List.set_cons_zero, List.set_cons_succ]
    refine wpAnyH_ready (rs := [3]) (by kernel_rfl) (by simp) ?_
    refine AllReadyH.cons (o := { dst := some 80, op := Go.Op.buildSlice 38 0 #[], type := 38, pos := "law.go:163", after := #[], guard := none }) rfl (fun K' hK' => ?_) AllReadyH.nil
    go_simp
    have ON2 := hid (own_none z2.drew 50 8)
    have BA2 := (Below.refl z2.drew.heap.size z2.drew).alloc (Nat.le_refl _) (.cells #[] 50)
    replace TD := hid (TD.out.kept BA2)
    replace VD := hid (VD.out.kept BA2)
    replace VT := hid (VT.out.kept BA2)
    clear BA2
    have hz := hid (show (z2.drew.alloc (.cells #[] 50)).cell? ⟨db, 2, none⟩ = some (.slice (some ⟨g, 0, none⟩) c.threads.length cap) ∧ (z2.drew.alloc (.cells #[] 50)).cell? ⟨w.heap.size, 2, none⟩ = some (.slice (some ⟨thb, toff, none⟩) c.threads.length p2) ∧ (z2.drew.alloc (.cells #[] 50)).cell? ⟨thb, toff + i * 3 + 1, none⟩ = some (.slice (some ⟨cb, coff, none⟩) b.code.length pc) from ⟨VD.out.cell 2 rfl, TD.out.b0.cell 2 rfl, (TD.out.bel.cell tlt.out).trans c1.out⟩)
    refine hK'.out _ _ hz.out (fun hHeld => ?_)
    clear hK' K'
    try simp only [Act.put, List.setIfInBounds_toArray, List.set_cons_zero, List.set_cons_succ]
    refine wpAnyH_ready (rs := [10]) (by kernel_rfl) (by simp) ?_
    refine AllReadyH.cons (o := { dst := some 87, op := Go.Op.call { callee := Go.Callee.builtin Go.Builtin.append, args := #[Go.Operand.tmp 80, Go.Operand.tmp 86], argTypes := #[38, 38] }, type := 38, pos := "law.go:163", after := #[{ on := 3, ground := Go.Ground.data }, { on := 9, ground := Go.Ground.data }], guard := none }) rfl (fun K' hK' => ?_) AllReadyH.nil
    refine step_append_rowof rfl _ _ 38 rfl z2.drew.heap.size 50 (.agg #[.int .i64 0, .int .i64 0, .int .i64 0, .int .i64 0, .int .i64 0, .int .i64 0, .slice none 0 0, .slice none 0 0]) 8 96 Tryd.underlying38 info50 rfl (by decide) _ (by rfl) 0 [] ON2.out _ (by rfl) (cells := Ins.cells) (ok := Ins.okW) (fun _ => rfl) b.code (CR.out _ TD.out) CON.out (by omega) (by decide) (by simp) ?_
    intro v6 w6 o6 g6 h6
    simp only [Nat.zero_add, List.nil_append] at o6
    obtain ⟨g2, cap2, cur2, rfl, hbg2, vc, hcap2, hmax2, hcl2, htk2⟩ := own_var o6 (by omega)
    have tg2 := grown_touch g6 ON2.out
    replace TD := hid (TD.out.grown tg2 (fun b e => by have := Option.some.inj (show some z2.drew.heap.size = some b from e); have := l2.out; have h0 := edr.out; omega))
    replace VD := hid (VD.out.touch tg2 (fun e => by have := Option.some.inj (show some z2.drew.heap.size = some db from e); have := l3.out; have h0 := edr.out; omega))
    replace VT := hid (VT.out.touch tg2 (fun e => by have := Option.some.inj (show some z2.drew.heap.size = some g from e); have := l4.out; have h0 := edr.out; omega))
    have VC := hid vc
    have hg2 := hid hbg2
    have HC2 := hid (And.intro hcap2 (And.intro hmax2 (And.intro hcl2 htk2)))
    clear o6 g6 h6 tg2 vc hbg2 hcap2 hmax2 hcl2 htk2 ON2
    have hz := hid (show w6.cell? ⟨db, 2, none⟩ = some (.slice (some ⟨g, 0, none⟩) c.threads.length cap) ∧ w6.cell? ⟨w.heap.size, 2, none⟩ = some (.slice (some ⟨thb, toff, none⟩) c.threads.length p2) ∧ w6.cell? ⟨thb, toff + i * 3 + 1, none⟩ = some (.slice (some ⟨cb, coff, none⟩) b.code.length pc) from ⟨VD.out.cell 2 rfl, TD.out.b0.cell 2 rfl, (TD.out.bel.cell tlt.out).trans c1.out⟩)
    refine hK'.out _ _ hz.out (fun hHeld => ?_)
    clear hK' K'
    try simp only [Act.put, List.setIfInBounds_toArray, List.set_cons_zero, List.set_cons_succ]
    refine wpAnyH_take (i := 11) (oi := { dst := some 88, op := Go.Op.indexAddr 24 (Go.Operand.tmp 78) (Go.Operand.tmp 79), type := 0, pos := "law.go:163", after := #[{ on := 1, ground := Go.Ground.data }, { on := 2, ground := Go.Ground.data }, { on := 0, ground := Go.Ground.phase }, { on := 1, ground := Go.Ground.phase }, { on := 2, ground := Go.Ground.phase }, { on := 3, ground := Go.Ground.phase }, { on := 4, ground := Go.Ground.phase }, { on := 5, ground := Go.Ground.phase }, { on := 6, ground := Go.Ground.phase }, { on := 7, ground := Go.Ground.phase }, { on := 8, ground := Go.Ground.phase }, { on := 9, ground := Go.Ground.phase }, { on := 10, ground := Go.Ground.phase }], guard := none }) (v := ?_) rfl (by kernel_rfl) (by kernel_rfl) (by kernel_rfl) (fun _ _ _ h => h) (Or.inl ⟨by rfl, ?_⟩) hHeld ?_
    rotate_left
    · intro w0 hSw; (try dsimp only at hSw); go_simp; (try with_reducible rfl)
    try simp only [Act.put, List.setIfInBounds_toArray, List.set_cons_zero, List.set_cons_succ]
    refine wpAnyH_take (i := 12) (oi := { dst := some 89, op := Go.Op.fieldAddr 40 (Go.Operand.tmp 88) 1, type := 0, pos := "law.go:163", after := #[{ on := 11, ground := Go.Ground.data }, { on := 0, ground := Go.Ground.phase }, { on := 1, ground := Go.Ground.phase }, { on := 2, ground := Go.Ground.phase }, { on := 3, ground := Go.Ground.phase }, { on := 4, ground := Go.Ground.phase }, { on := 5, ground := Go.Ground.phase }, { on := 6, ground := Go.Ground.phase }, { on := 7, ground := Go.Ground.phase }, { on := 8, ground := Go.Ground.phase }, { on := 9, ground := Go.Ground.phase }, { on := 10, ground := Go.Ground.phase }], guard := none }) (v := ?_) rfl (by kernel_rfl) (by kernel_rfl) (by kernel_rfl) (fun _ _ _ h => h) (Or.inl ⟨by rfl, ?_⟩) hHeld ?_
    rotate_left
    · intro w0 hSw; (try dsimp only at hSw); go_simp; (try with_reducible rfl)
    try simp only [Act.put, List.setIfInBounds_toArray, List.set_cons_zero, List.set_cons_succ]
    refine wpAnyH_ready (rs := [13]) (by kernel_rfl) (by simp) ?_
    refine AllReadyH.cons (o := { dst := none, op := Go.Op.store 38 (Go.Operand.tmp 89) (Go.Operand.tmp 87), type := 0, pos := "law.go:163", after := #[{ on := 12, ground := Go.Ground.data }, { on := 10, ground := Go.Ground.data }, { on := 10, ground := Go.Ground.chain }, { on := 0, ground := Go.Ground.phase }, { on := 1, ground := Go.Ground.phase }, { on := 2, ground := Go.Ground.phase }, { on := 3, ground := Go.Ground.phase }, { on := 4, ground := Go.Ground.phase }, { on := 5, ground := Go.Ground.phase }, { on := 6, ground := Go.Ground.phase }, { on := 7, ground := Go.Ground.phase }, { on := 8, ground := Go.Ground.phase }, { on := 9, ground := Go.Ground.phase }, { on := 10, ground := Go.Ground.phase }], guard := none }) rfl (fun K' hK' => ?_) AllReadyH.nil
    refine step_store_cell 38 _ _ (by rfl) (by rfl) g (i * 3 + 1) (by rfl) (.slice (some ⟨g2, 0, none⟩) b.code.length cap2) (by rfl) size38 rfl _ _ VT.out hil.out ?_
    intro z3 hv ht
    replace TD := hid (TD.out.side ht hgN.out)
    replace VD := hid (ht.var VD.out hgd.out)
    replace VC := hid (ht.var VC.out (by have := hg2.out; have := l4.out; have h0 := edr.out; omega))
    replace VT := hid hv
    clear hv ht
    have hz := hid (show z3.cell? ⟨db, 2, none⟩ = some (.slice (some ⟨g, 0, none⟩) c.threads.length cap) ∧ z3.cell? ⟨w.heap.size, 2, none⟩ = some (.slice (some ⟨thb, toff, none⟩) c.threads.length p2) ∧ z3.cell? ⟨thb, toff + i * 3 + 1, none⟩ = some (.slice (some ⟨cb, coff, none⟩) b.code.length pc) from ⟨VD.out.cell 2 rfl, TD.out.b0.cell 2 rfl, (TD.out.bel.cell tlt.out).trans c1.out⟩)
    refine hK'.out _ _ hz.out (fun hHeld => ?_)
    clear hK' K'
    try simp only [Act.put, List.setIfInBounds_toArray, List.set_cons_zero, List.set_cons_succ]
    refine wpAnyH_done (by kernel_rfl) ?_ _
    clear hHeld
    skip
    go_wp2_with fail
    refine hK.out _ _ ?_
    clear hK K hz
    have hT := HCT.out
    have hC := HC2.out
    have m1 := VD.out.lt
    have m2 := VT.out.lt
    have m3 := VC.out.lt
    have q2 := VD.out.cell 2 rfl
    have qg := VT.out.cell (i * 3 + 1) (v := .slice (some ⟨g2, 0, none⟩) b.code.length cap2) (List.getElem?_set_self hil.out)
    have hjl : j * 8 + 6 < cur2.length := by
      rw [hC.2.2.1]
      have : (j + 1) * 8 ≤ cap2 * 8 := Nat.mul_le_mul_right 8 (by omega)
      omega
    have BA := (Below.refl z3.heap.size z3).alloc (Nat.le_refl _) (.cells #[.int .i64 1, .int .i64 0, .int .u64 0] 52)
    have TD1 := hid (TD.out.kept BA)
    have VD1 := hid (VD.out.kept BA)
    have VT1 := hid (VT.out.kept BA)
    have VC1 := hid (VC.out.kept BA)
    have VI := hid (BoxAt.new z3 #[.int .i64 1, .int .i64 0, .int .u64 0] 52)
    have hjl2 := hid hjl
    have hgN2 := hid (show N ≤ g2 by have := hg2.out; have := l2.out; have h0 := edr.out; omega)
    have hgd2 := hid (show db ≠ g2 ∧ g ≠ g2 by have := hg2.out; have := l3.out; have := l4.out; have h0 := edr.out; omega)
    have m3' := hid m3
    clear BA hT hC hjl
    refine wp_seq_k (fun K hK => ?_)
    replace hK := hid hK
    go_wp2_with (refine wl_store_cell 48 _ _ rfl rfl g2 (j * 8 + 6) rfl (.slice (some ⟨z3.heap.size, 0, none⟩) 1 1) rfl size48 rfl _ _ VC1.out hjl2.out ?_; intro z4 hv ht)
    try simp only [Act.put]
    refine hK.out _ _ ?_
    clear hK K q2 qg m1 m2 m3 TD VD VT VC
    have TD := hid (TD1.out.side ht hgN2.out)
    have VD := hid (ht.var VD1.out hgd2.out.1)
    have VT := hid (ht.var VT1.out hgd2.out.2)
    have VC := hid hv
    have VJ := hid (ht.box VI.out (by have := m3'.out; omega))
    clear hv ht TD1 VD1 VT1 VC1 VI
    obtain ⟨iv, hiv⟩ : ∃ iv, iv = Value.slice (some ⟨z3.heap.size, 0, none⟩) 1 1 := ⟨_, rfl⟩
    have hI : hasI x.op = true := by rcases OP.out with h | h | h <;> rw [h] <;> rfl
    have bw := TD.out.bel
    have OKI : (ins0 x iv).okW z4 := by
      obtain ⟨c1', -, cb', -, -, -, ok⟩ := HCR.out j hjn
      obtain ⟨x', xb', xo', hx', -, -, -, okx⟩ := HCR.out j hjn
      rw [HX.out] at hx'
      cases hx'
      have k := Ins.kept okx bw
      refine ⟨k.1, ?_, k.2.2⟩
      rw [hiv]
      exact RowOf.one (cells := Itm.cells) (ok := Itm.okW) (x := ⟨1, 0, 0⟩) VJ.out (⟨by decide, by decide, by decide, by decide, by decide⟩ : Itm.ok ⟨1, 0, 0⟩)
    have okI : ∀ z ∈ b.code.set j (ins0 x iv), Ins.okW z4 z := fun z hz => by
      obtain ⟨k, hk, hkz⟩ := List.getElem_of_mem hz
      rcases set_get (List.getElem?_eq_some_iff.2 ⟨hk, hkz⟩) with ⟨rfl, rfl, _⟩ | ⟨_, h⟩
      · exact OKI
      · obtain ⟨x', xb', xo', hx', -, -, -, okx⟩ := HCR.out k (List.getElem?_eq_some_iff.1 h).1
        rw [h] at hx'
        cases hx'
        exact Ins.kept okx bw
    have ROWC : Inss z4 (.slice (some ⟨g2, 0, none⟩) b.code.length cap2) (b.code.set j (ins0 x iv)) := row_set (cells := Ins.cells) (s := 8) (ok := Ins.okW) (q := 6) (v := iv) b.code (fun _ _ => rfl) HX.out (by decide) rfl HC2.out.2.2.2 HC2.out.2.2.1 HC2.out.1 HC2.out.2.1 (by rw [hiv]; exact VC.out) okI
    have ROWT : Bds z4 (.slice (some ⟨g, 0, none⟩) c.threads.length cap) (c.threads.set i (bd0 b j x iv (.slice (some ⟨g2, 0, none⟩) b.code.length cap2))) := row_set (cells := Bd.cells) (s := 3) (ok := Bd.okW) (q := 1) (v := .slice (some ⟨g2, 0, none⟩) b.code.length cap2) c.threads (fun _ _ => rfl) HB.out (by decide) rfl HCT.out.2.2.2 HCT.out.2.2.1 HCT.out.1 HCT.out.2.1 VT.out (fun z hz => by
      obtain ⟨k, hk, hkz⟩ := List.getElem_of_mem hz
      rcases set_get (List.getElem?_eq_some_iff.2 ⟨hk, hkz⟩) with ⟨rfl, rfl, _⟩ | ⟨_, h⟩
      · exact ⟨TOK.out.1, Locs.kept TOK.out.2.1 bw, ROWC⟩
      · obtain ⟨x', xb', xo', hx', -, -, -, okx⟩ := HTR.out k (List.getElem?_eq_some_iff.1 h).1
        rw [h] at hx'
        cases hx'
        exact Bd.kept okx bw)
    have OKD : (cd0 c i j b x iv (.slice (some ⟨g2, 0, none⟩) b.code.length cap2) (.slice (some ⟨g, 0, none⟩) c.threads.length cap)).okW z4 := by
      have k := Cd.kept HC.out bw
      exact ⟨k.1, k.2.1, ROWT, k.2.2.2.1, k.2.2.2.2⟩
    have G0 := hid (good0 (iv := iv) (cv := .slice (some ⟨g2, 0, none⟩) b.code.length cap2) (tv := .slice (some ⟨g, 0, none⟩) c.threads.length cap) G.out HB.out HX.out hI)
    have DD := A22.out _ z4 bw OKD (small0 (iv := iv) (cv := .slice (some ⟨g2, 0, none⟩) b.code.length cap2) (tv := .slice (some ⟨g, 0, none⟩) c.threads.length cap) SC.out HB.out HX.out)
    simp only [Cd.cells] at DD
    have DE : (cd0 c i j b x iv (.slice (some ⟨g2, 0, none⟩) b.code.length cap2) (.slice (some ⟨g, 0, none⟩) c.threads.length cap)).rv = .slice a0 c.recs.length p0 ∧ (cd0 c i j b x iv (.slice (some ⟨g2, 0, none⟩) b.code.length cap2) (.slice (some ⟨g, 0, none⟩) c.threads.length cap)).gv = .slice a1 c.globs.length p1 ∧ (cd0 c i j b x iv (.slice (some ⟨g2, 0, none⟩) b.code.length cap2) (.slice (some ⟨g, 0, none⟩) c.threads.length cap)).tv = .slice (some ⟨g, 0, none⟩) c.threads.length cap ∧ (cd0 c i j b x iv (.slice (some ⟨g2, 0, none⟩) b.code.length cap2) (.slice (some ⟨g, 0, none⟩) c.threads.length cap)).ev = .slice a3 c.sites.length p3 ∧ (cd0 c i j b x iv (.slice (some ⟨g2, 0, none⟩) b.code.length cap2) (.slice (some ⟨g, 0, none⟩) c.threads.length cap)).cv = .slice a4 c.secs.length p4 := ⟨E0.out, E1.out, rfl, E3.out, E4.out⟩
    rw [DE.1, DE.2.1, DE.2.2.1, DE.2.2.2.1, DE.2.2.2.2] at DD
    replace DD := hid DD
    have LS := hid (fun T (h : Least (cd0 c i j b x iv (.slice (some ⟨g2, 0, none⟩) b.code.length cap2) (.slice (some ⟨g, 0, none⟩) c.threads.length cap)) T) => less0 HB.out HX.out OP.out LE.out h)
    have TL : Hid ((cd0 c i j b x iv (.slice (some ⟨g2, 0, none⟩) b.code.length cap2) (.slice (some ⟨g, 0, none⟩) c.threads.length cap)).threads.length = c.threads.length) := hid (List.length_set ..)
    have SL : Hid ((cd0 c i j b x iv (.slice (some ⟨g2, 0, none⟩) b.code.length cap2) (.slice (some ⟨g, 0, none⟩) c.threads.length cap)).sites.length = c.sites.length) := hid rfl
    obtain ⟨y0, y1, y2, y3, y4⟩ := cells5 VD.out
    generalize hdd : cd0 c i j b x iv (.slice (some ⟨g2, 0, none⟩) b.code.length cap2) (.slice (some ⟨g, 0, none⟩) c.threads.length cap) = d at *
    clear hdd OKI okI ROWC ROWT OKD DE hiv VJ VC VT
    refine wp_seq_k (fun K hK => ?_)
    replace hK := hid hK
    go_wp2_with (first
      | (go_at_call 11; refine Calls.mono DD.out ?_; rintro _ y ⟨w0', w1', w2', rfl, bl, hs, -⟩; obtain ⟨T, V', BB', sm, le⟩ := hs G0.out; have SM := hid sm; have LT := hid (LS.out T le); have LEd := hid le; replace TD := hid (TD.out.kept bl); have VS := hid (VarAt.new y [.slice none 0 0, .slice none 0 0, .slice none 0 0] 35); obtain ⟨r0, n0, o0, r1, n1, o1, r2, n2, o2, rfl, rfl, rfl⟩ := sm.ones; clear sm le bl hs DD y0 y1 y2 y3 y4)
      | (refine wl_store_box 35 _ _ rfl rfl _ rfl [.slice r0 n0 o0, .slice r1 n1 o1, .slice r2 n2 o2] rfl size35 (ones3 rfl rfl rfl) _ _ VS.out rfl rfl ?_; intro z5 hv ht))
    try simp only [Act.put]
    refine hK.out _ _ ?_
    clear hK K
    have ba := (Below.refl y.heap.size y).alloc (Nat.le_refl _) (.cells #[.slice none 0 0, .slice none 0 0, .slice none 0 0] 35)
    have hNy := TD.out.lt.2.2
    replace TD := hid ((TD.out.kept ba).side ht hNy)
    have VT := hid hv
    have SM5 := (SM.out.kept ba).touch ht.t1 (fun b h1 h2 e => by omega)
    rw [TL.out, SL.out] at SM5
    have SMT := hid SM5
    have hsh := LT.out.1.trans LE.out.1.1
    have SMST := hid (sms_good G.out hsh)
    have CF := hid (fun Y (h : LsD w c [.slice a0 c.recs.length p0, .slice a1 c.globs.length p1, .slice (some ⟨thb, toff, none⟩) c.threads.length p2, .slice a3 c.sites.length p3, .slice a4 c.secs.length p4] sb N (.slice s0 m0 q0) (.slice s1 m1 q1) (.slice s2 m2 q2) R V BB Y) => (by
      obtain ⟨base, top, -, hs⟩ := h.sets
      exact flat_any hs (sms_good G.out LE.out.1.1) : Calls Tryd.prog 19 #[.agg #[.slice s0 m0 q0, .slice s1 m1 q1, .slice s2 m2 q2]] Y fun e W' => ∃ u, e = .returned u ∧ W'.ownsRow (Y.heap.size + 1) 44 1 u (flatR c.threads.length c.sites.length R).length (cellsN (flatR c.threads.length c.sites.length R)) ∧ (flatR c.threads.length c.sites.length R).length ≤ 300000 ∧ Below Y.heap.size Y W'))
    have RE := hid (flat_less LT.out.1 LT.out.2 c.threads.length c.sites.length)
    have UR := hid (flat_bits (sms_good G.out LE.out.1.1) (LE.out.1.allU G.out))
    have UT := hid (flat_bits SMST.out (LEd.out.1.allU G0.out))
    have hlen := hid RE.out.1
    have hle3 := hid (flat_small (sms_good G.out LE.out.1.1))
    have CT := hid (fun Y bb0 tt0 (h : SetsM Y bb0 tt0 c.threads.length c.sites.length (.slice r0 n0 o0) (.slice r1 n1 o1) (.slice r2 n2 o2) T V' BB') => (flat_any h SMST.out : Calls Tryd.prog 19 #[.agg #[.slice r0 n0 o0, .slice r1 n1 o1, .slice r2 n2 o2]] Y fun e W' => ∃ u, e = .returned u ∧ W'.ownsRow (Y.heap.size + 1) 44 1 u (flatR c.threads.length c.sites.length T).length (cellsN (flatR c.threads.length c.sites.length T)) ∧ (flatR c.threads.length c.sites.length T).length ≤ 300000 ∧ Below Y.heap.size Y W'))
    clear ba hv ht VS SM SM5 hNy VD LS hsh
    generalize y.heap.size = tb at *
    generalize hLX : flatR c.threads.length c.sites.length R = LX at *
    generalize hLY : flatR c.threads.length c.sites.length T = LY at *
    clear hLX hLY LEd LT SMST G0 TL SL HCT HC2
    try clear HC
    try clear E0
    try clear E1
    try clear E2
    try clear E3
    try clear E4
    try clear A22
    try clear CA
    try clear HB
    try clear HCR
    try clear HTR
    try clear TOK
    try clear EC
    try clear x0
    try clear clt
    try clear c1
    try clear tlt
    try clear HX
    try clear OP
    try clear SC
    try clear LE
    try clear hnT
    try clear hnK
    try clear hgN
    try clear hgd
    try clear hil
    try clear CON
    try clear CR
    try clear l2
    try clear l3
    try clear l4
    try clear edr
    try clear hg2
    try clear hjl2
    try clear hgN2
    try clear hgd2
    try clear m3'
    try clear bw
    try clear hI
    try clear G
    try clear hdb
    try clear hiI
    try clear hjI
    try clear hjn
    try clear hin
    try clear hTab
    refine wp_seq_k (fun K hK => ?_)
    replace hK := hid hK
    go_wp2_with fail
    replace TD := hid (TD.out.kept (Below.refl _ _).drew)
    replace VT := hid (VT.out.kept (Below.refl _ _).drew)
    replace SMT := hid (SMT.out.kept (Below.refl _ _).drew)
    refine wp_region_held_drew (S := fun (w' : World) => w'.cell? ⟨sb, 0, none⟩ = some (.slice s0 m0 q0) ∧ w'.cell? ⟨sb, 1, none⟩ = some (.slice s1 m1 q1) ∧ w'.cell? ⟨sb, 2, none⟩ = some (.slice s2 m2 q2) ∧ w'.cell? ⟨tb, 0, none⟩ = some (.slice r0 n0 o0) ∧ w'.cell? ⟨tb, 1, none⟩ = some (.slice r1 n1 o1) ∧ w'.cell? ⟨tb, 2, none⟩ = some (.slice r2 n2 o2)) (by kernel_rfl) (⟨TD.out.bs.cell 0 rfl, TD.out.bs.cell 1 rfl, TD.out.bs.cell 2 rfl, VT.out.cell 0 rfl, VT.out.cell 1 rfl, VT.out.cell 2 rfl⟩) (fun hHeld => ?_)
    refine wpAnyH_take (i := 0) (oi := { dst := some 103, op := Go.Op.load 35 (Go.Operand.tmp 8), type := 35, pos := "law.go:166", after := #[], guard := none }) (v := ?_) rfl (by kernel_rfl) (by kernel_rfl) (by kernel_rfl) (fun _ _ _ h => h) (Or.inl ⟨by rfl, ?_⟩) hHeld ?_
    rotate_left
    · intro w0 hSw; (try dsimp only at hSw); go_simp; (try with_reducible rfl)
    try simp only [Act.put, List.setIfInBounds_toArray, List.set_cons_zero, List.set_cons_succ]
    refine wpAnyH_take (i := 2) (oi := { dst := some 105, op := Go.Op.load 35 (Go.Operand.tmp 10), type := 35, pos := "law.go:166", after := #[], guard := none }) (v := ?_) rfl (by kernel_rfl) (by kernel_rfl) (by kernel_rfl) (fun _ _ _ h => h) (Or.inl ⟨by rfl, ?_⟩) hHeld ?_
    rotate_left
    · intro w0 hSw; (try dsimp only at hSw); go_simp; (try with_reducible rfl)
    try simp only [Act.put, List.setIfInBounds_toArray, List.set_cons_zero, List.set_cons_succ]
    refine wpAnyH_ready (rs := [1]) (by kernel_rfl) (by simp) ?_
    refine AllReadyH.cons (o := { dst := some 104, op := Go.Op.call { callee := Go.Callee.value (Go.Operand.func 19), args := #[Go.Operand.tmp 103], argTypes := #[35] }, type := 33, pos := "law.go:166", after := #[{ on := 0, ground := Go.Ground.data }], guard := none }) rfl (fun K' hK' => ?_) AllReadyH.nil
    go_simp
    go_at_call 19
    refine Calls.mono (CF.out _ TD.out) ?_
    rintro _ y8 ⟨u, rfl, ho, -, hb⟩
    replace TD := hid (TD.out.kept hb)
    replace VT := hid (VT.out.kept hb)
    replace SMT := hid (SMT.out.kept hb)
    try replace YF := hid (fun q (hq : q < LY.length) => (by obtain ⟨g0, e0, hl0, hc0⟩ := YF.out q hq; exact ⟨g0, e0, Nat.lt_of_lt_of_le hl0 hb.size, (hb.cell (p := ⟨g0, q, none⟩) hl0).trans hc0⟩ : ∃ g0, ya = some ⟨g0, 0, none⟩ ∧ g0 < y8.heap.size ∧ y8.cell? ⟨g0, q, none⟩ = some (.int .u64 ((LY.getD q 0 : Nat) : Int))))
    obtain ⟨xa, xc, rfl, hrow⟩ := own_cells ho
    have XF := hid (fun q (hq : q < LX.length) => (by obtain ⟨g0, e0, -, hl0, hc0⟩ := hrow q hq; exact ⟨g0, e0, hl0, hc0⟩ : ∃ g0, xa = some ⟨g0, 0, none⟩ ∧ g0 < y8.heap.size ∧ y8.cell? ⟨g0, q, none⟩ = some (.int .u64 ((LX.getD q 0 : Nat) : Int))))
    clear ho hrow hb
    have hz := hid (show y8.cell? ⟨sb, 0, none⟩ = some (.slice s0 m0 q0) ∧ y8.cell? ⟨sb, 1, none⟩ = some (.slice s1 m1 q1) ∧ y8.cell? ⟨sb, 2, none⟩ = some (.slice s2 m2 q2) ∧ y8.cell? ⟨tb, 0, none⟩ = some (.slice r0 n0 o0) ∧ y8.cell? ⟨tb, 1, none⟩ = some (.slice r1 n1 o1) ∧ y8.cell? ⟨tb, 2, none⟩ = some (.slice r2 n2 o2) from ⟨TD.out.bs.cell 0 rfl, TD.out.bs.cell 1 rfl, TD.out.bs.cell 2 rfl, VT.out.cell 0 rfl, VT.out.cell 1 rfl, VT.out.cell 2 rfl⟩)
    refine hK'.out _ _ hz.out (fun hHeld => ?_)
    clear hK' K'
    try simp only [Act.put, List.setIfInBounds_toArray, List.set_cons_zero, List.set_cons_succ]
    refine wpAnyH_ready (rs := [3]) (by kernel_rfl) (by simp) ?_
    refine AllReadyH.cons (o := { dst := some 106, op := Go.Op.call { callee := Go.Callee.value (Go.Operand.func 19), args := #[Go.Operand.tmp 105], argTypes := #[35] }, type := 33, pos := "law.go:166", after := #[{ on := 2, ground := Go.Ground.data }, { on := 1, ground := Go.Ground.chain }], guard := none }) rfl (fun K' hK' => ?_) AllReadyH.nil
    go_simp
    go_at_call 19
    refine Calls.mono (CT.out _ _ _ SMT.out) ?_
    rintro _ y9 ⟨u, rfl, ho, -, hb⟩
    replace TD := hid (TD.out.kept hb)
    replace VT := hid (VT.out.kept hb)
    replace SMT := hid (SMT.out.kept hb)
    try replace XF := hid (fun q (hq : q < LX.length) => (by obtain ⟨g0, e0, hl0, hc0⟩ := XF.out q hq; exact ⟨g0, e0, Nat.lt_of_lt_of_le hl0 hb.size, (hb.cell (p := ⟨g0, q, none⟩) hl0).trans hc0⟩ : ∃ g0, xa = some ⟨g0, 0, none⟩ ∧ g0 < y9.heap.size ∧ y9.cell? ⟨g0, q, none⟩ = some (.int .u64 ((LX.getD q 0 : Nat) : Int))))
    obtain ⟨ya, yc, rfl, hrow⟩ := own_cells ho
    have YF := hid (fun q (hq : q < LY.length) => (by obtain ⟨g0, e0, -, hl0, hc0⟩ := hrow q hq; exact ⟨g0, e0, hl0, hc0⟩ : ∃ g0, ya = some ⟨g0, 0, none⟩ ∧ g0 < y9.heap.size ∧ y9.cell? ⟨g0, q, none⟩ = some (.int .u64 ((LY.getD q 0 : Nat) : Int))))
    clear ho hrow hb
    have hz := hid (show y9.cell? ⟨sb, 0, none⟩ = some (.slice s0 m0 q0) ∧ y9.cell? ⟨sb, 1, none⟩ = some (.slice s1 m1 q1) ∧ y9.cell? ⟨sb, 2, none⟩ = some (.slice s2 m2 q2) ∧ y9.cell? ⟨tb, 0, none⟩ = some (.slice r0 n0 o0) ∧ y9.cell? ⟨tb, 1, none⟩ = some (.slice r1 n1 o1) ∧ y9.cell? ⟨tb, 2, none⟩ = some (.slice r2 n2 o2) from ⟨TD.out.bs.cell 0 rfl, TD.out.bs.cell 1 rfl, TD.out.bs.cell 2 rfl, VT.out.cell 0 rfl, VT.out.cell 1 rfl, VT.out.cell 2 rfl⟩)
    refine hK'.out _ _ hz.out (fun hHeld => ?_)
    clear hK' K'
    try simp only [Act.put, List.setIfInBounds_toArray, List.set_cons_zero, List.set_cons_succ]
    refine wpAnyH_take (i := 4) (oi := { dst := some 11, op := Go.Op.assign (Go.Operand.tmp 104), type := 33, pos := "law.go:166", after := #[{ on := 1, ground := Go.Ground.data }, { on := 3, ground := Go.Ground.chain }, { on := 0, ground := Go.Ground.phase }, { on := 1, ground := Go.Ground.phase }, { on := 2, ground := Go.Ground.textOnly Go.Departure.lateStores }, { on := 3, ground := Go.Ground.textOnly Go.Departure.lateStoresUnsure }], guard := none }) (v := ?_) rfl (by kernel_rfl) (by kernel_rfl) (by kernel_rfl) (fun _ _ _ h => h) (Or.inl ⟨by rfl, ?_⟩) hHeld ?_
    rotate_left
    · intro w0 hSw; (try dsimp only at hSw); go_simp; (try with_reducible rfl)
    try simp only [Act.put, List.setIfInBounds_toArray, List.set_cons_zero, List.set_cons_succ]
    refine wpAnyH_take (i := 5) (oi := { dst := some 12, op := Go.Op.assign (Go.Operand.tmp 106), type := 33, pos := "law.go:166", after := #[{ on := 3, ground := Go.Ground.data }, { on := 4, ground := Go.Ground.chain }, { on := 0, ground := Go.Ground.phase }, { on := 1, ground := Go.Ground.phase }, { on := 2, ground := Go.Ground.phase }, { on := 3, ground := Go.Ground.phase }, { on := 4, ground := Go.Ground.phase }], guard := none }) (v := ?_) rfl (by kernel_rfl) (by kernel_rfl) (by kernel_rfl) (fun _ _ _ h => h) (Or.inl ⟨by rfl, ?_⟩) hHeld ?_
    rotate_left
    · intro w0 hSw; (try dsimp only at hSw); go_simp; (try with_reducible rfl)
    try simp only [Act.put, List.setIfInBounds_toArray, List.set_cons_zero, List.set_cons_succ]
    refine wpAnyH_done (by kernel_rfl) ?_ _
    clear hHeld
    skip
    go_wp2_with fail
    refine hK.out _ _ ?_
    clear hK K hz CF CT SMT VT
    generalize hny : LY.length = ny at *
    have hl0 := hlen.out
    subst hl0
    replace hny := hid hny
    have hle4 := hle3.out
    have XB := hid TD.out.bel
    go_wp2_with fail
    go_loopw [114] (fun t wr => ∃ k : Nat, t = .int .i64 k ∧ k ≤ LX.length ∧ Hid (Below w.heap.size w wr) ∧ Hid (Below y9.heap.size y9 wr)) (fun t _ => LX.length - (intOf t).toNat)
    case atStart => exact ⟨0, rfl, by omega, XB, hid (Below.refl _ _)⟩
    case round =>
      clear XB TD
      obtain ⟨k, rfl, hk, XB, BY⟩ := hrel
      by_cases hkn : k < LX.length
      · obtain ⟨gx, rfl, hgx, hcx⟩ := XF.out k hkn
        obtain ⟨gy, rfl, hgy, hcy⟩ := YF.out k hkn
        have c1d := (BY.out.cell (p := ⟨gy, k, none⟩) hgy).trans hcy
        have c2d := (BY.out.cell (p := ⟨gx, k, none⟩) hgx).trans hcx
        have e0 := andnot0 (UT.out k) (UR.out k) (RE.out.2 k)
        have hkI : (k : Int) < (LX.length : Int) := by omega
        generalize LX.getD k 0 = xv at *
        generalize LY.getD k 0 = yv at *
        have X2 := hid (XB.out.drew)
        have Y2 := hid (BY.out.drew)
        clear hcx hcy XF YF UT UR RE XB BY
        go_wp2_with fail
        replace c1d : wr.drew.cell? ⟨gy, k, none⟩ = some (.int .u64 (yv : Int)) := c1d
        replace c2d : wr.drew.cell? ⟨gx, k, none⟩ = some (.int .u64 (xv : Int)) := c2d
        refine wp_region_held_drew (S := fun (w' : World) => w'.cell? ⟨gy, k, none⟩ = some (.int .u64 (yv : Int)) ∧ w'.cell? ⟨gx, k, none⟩ = some (.int .u64 (xv : Int))) (by kernel_rfl) (⟨c1d, c2d⟩) (fun hHeld => ?_)
        refine wpAnyH_take (i := 0) (oi := { dst := some 117, op := Go.Op.move (Go.Operand.tmp 12), type := 33, pos := "law.go:171", after := #[], guard := none }) (v := ?_) rfl (by kernel_rfl) (by kernel_rfl) (by kernel_rfl) (fun _ _ _ h => h) (Or.inl ⟨by rfl, ?_⟩) hHeld ?_
        rotate_left
        · intro w0 hSw; (try dsimp only at hSw); go_simp; (try with_reducible rfl)
        try simp only [Act.put, List.setIfInBounds_toArray, List.set_cons_zero, List.set_cons_succ]
        refine wpAnyH_take (i := 1) (oi := { dst := some 118, op := Go.Op.move (Go.Operand.tmp 13), type := 3, pos := "law.go:171", after := #[], guard := none }) (v := ?_) rfl (by kernel_rfl) (by kernel_rfl) (by kernel_rfl) (fun _ _ _ h => h) (Or.inl ⟨by rfl, ?_⟩) hHeld ?_
        rotate_left
        · intro w0 hSw; (try dsimp only at hSw); go_simp; (try with_reducible rfl)
        try simp only [Act.put, List.setIfInBounds_toArray, List.set_cons_zero, List.set_cons_succ]
        refine wpAnyH_take (i := 2) (oi := { dst := some 119, op := Go.Op.indexAddr 33 (Go.Operand.tmp 117) (Go.Operand.tmp 118), type := 0, pos := "law.go:171", after := #[{ on := 0, ground := Go.Ground.data }, { on := 1, ground := Go.Ground.data }], guard := none }) (v := ?_) rfl (by kernel_rfl) (by kernel_rfl) (by kernel_rfl) (fun _ _ _ h => h) (Or.inl ⟨by rfl, ?_⟩) hHeld ?_
        rotate_left
        · intro w0 hSw; (try dsimp only at hSw); go_simp; (try with_reducible rfl)
        try simp only [Act.put, List.setIfInBounds_toArray, List.set_cons_zero, List.set_cons_succ]
        refine wpAnyH_take (i := 3) (oi := { dst := some 120, op := Go.Op.load 44 (Go.Operand.tmp 119), type := 44, pos := "law.go:171", after := #[{ on := 2, ground := Go.Ground.data }], guard := none }) (v := ?_) rfl (by kernel_rfl) (by kernel_rfl) (by kernel_rfl) (fun _ _ _ h => h) (Or.inl ⟨by rfl, ?_⟩) hHeld ?_
        rotate_left
        · intro w0 hSw; (try dsimp only at hSw); go_simp; (try with_reducible rfl)
        try simp only [Act.put, List.setIfInBounds_toArray, List.set_cons_zero, List.set_cons_succ]
        refine wpAnyH_take (i := 4) (oi := { dst := some 121, op := Go.Op.move (Go.Operand.tmp 11), type := 33, pos := "law.go:171", after := #[], guard := none }) (v := ?_) rfl (by kernel_rfl) (by kernel_rfl) (by kernel_rfl) (fun _ _ _ h => h) (Or.inl ⟨by rfl, ?_⟩) hHeld ?_
        rotate_left
        · intro w0 hSw; (try dsimp only at hSw); go_simp; (try with_reducible rfl)
        try simp only [Act.put, List.setIfInBounds_toArray, List.set_cons_zero, List.set_cons_succ]
        refine wpAnyH_take (i := 5) (oi := { dst := some 122, op := Go.Op.move (Go.Operand.tmp 13), type := 3, pos := "law.go:171", after := #[], guard := none }) (v := ?_) rfl (by kernel_rfl) (by kernel_rfl) (by kernel_rfl) (fun _ _ _ h => h) (Or.inl ⟨by rfl, ?_⟩) hHeld ?_
        rotate_left
        · intro w0 hSw; (try dsimp only at hSw); go_simp; (try with_reducible rfl)
        try simp only [Act.put, List.setIfInBounds_toArray, List.set_cons_zero, List.set_cons_succ]
        refine wpAnyH_take (i := 6) (oi := { dst := some 123, op := Go.Op.indexAddr 33 (Go.Operand.tmp 121) (Go.Operand.tmp 122), type := 0, pos := "law.go:171", after := #[{ on := 4, ground := Go.Ground.data }, { on := 5, ground := Go.Ground.data }], guard := none }) (v := ?_) rfl (by kernel_rfl) (by kernel_rfl) (by kernel_rfl) (fun _ _ _ h => h) (Or.inl ⟨by rfl, ?_⟩) hHeld ?_
        rotate_left
        · intro w0 hSw; (try dsimp only at hSw); go_simp; (try with_reducible rfl)
        try simp only [Act.put, List.setIfInBounds_toArray, List.set_cons_zero, List.set_cons_succ]
        refine wpAnyH_take (i := 7) (oi := { dst := some 124, op := Go.Op.load 44 (Go.Operand.tmp 123), type := 44, pos := "law.go:171", after := #[{ on := 6, ground := Go.Ground.data }], guard := none }) (v := ?_) rfl (by kernel_rfl) (by kernel_rfl) (by kernel_rfl) (fun _ _ _ h => h) (Or.inl ⟨by rfl, ?_⟩) hHeld ?_
        rotate_left
        · intro w0 hSw; (try dsimp only at hSw); go_simp; (try with_reducible rfl)
        try simp only [Act.put, List.setIfInBounds_toArray, List.set_cons_zero, List.set_cons_succ]
        refine wpAnyH_take (i := 8) (oi := { dst := some 125, op := Go.Op.binOp Go.BinOp.andNot 44 (Go.Operand.tmp 120) (Go.Operand.tmp 124) 44, type := 44, pos := "law.go:171", after := #[{ on := 3, ground := Go.Ground.data }, { on := 7, ground := Go.Ground.data }], guard := none }) (v := ?_) rfl (by kernel_rfl) (by kernel_rfl) (by kernel_rfl) (fun _ _ _ h => h) (Or.inl ⟨by rfl, ?_⟩) hHeld ?_
        rotate_left
        · intro w0 hSw; (try dsimp only at hSw); go_simp; (try with_reducible rfl)
        try simp only [Act.put, List.setIfInBounds_toArray, List.set_cons_zero, List.set_cons_succ]
        refine wpAnyH_take (i := 9) (oi := { dst := some 126, op := Go.Op.binOp Go.BinOp.neq 44 (Go.Operand.tmp 125) (Go.Operand.const (Go.Value.int Go.IntKind.u64 0)) 44, type := 4, pos := "law.go:171", after := #[{ on := 8, ground := Go.Ground.data }], guard := none }) (v := ?_) rfl (by kernel_rfl) (by kernel_rfl) (by kernel_rfl) (fun _ _ _ h => h) (Or.inl ⟨by rfl, ?_⟩) hHeld ?_
        rotate_left
        · intro w0 hSw; (try dsimp only at hSw); go_simp; (try with_reducible rfl)
        try simp only [Act.put, List.setIfInBounds_toArray, List.set_cons_zero, List.set_cons_succ]
        refine wpAnyH_done (by kernel_rfl) ?_ _
        clear hHeld
        skip
        go_wp2_with fail
        go_roundw
        case rel => exact ⟨k + 1, by go_num, by omega, X2, Y2⟩
        case measure => simp [intOf]; omega
      · have e : k = LX.length := by omega
        clear XF YF UT UR RE
        go_wp2_with fail
        go_ret
        exact ⟨rfl, XB.out⟩
end Go.Proofs.YtkdpcaoocmbbhaaDoor
