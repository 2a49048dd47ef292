/- Make: its records. -/
import Derived.Test.YtfdfeiempeciiaaJoinB
import Derived.Shelf.Abstract
namespace Go.Proofs.Ytfdfeiempeciiaa
open Go.ChangeShapes Go.WideShapes Go.ChangeAt Go.RowKit Go.Shelf
set_option linter.unusedVariables false
attribute [local go_sem ↓] Go.wp_at_zero Go.wp_at_succ

theorem IsInts.up {w : World} {B B' : Nat} {v : Value} {N : List Int} (h : IsInts w B v N) (hB : B ≤ B') : IsInts w B' v N := by
  obtain ⟨a, cap, rfl, hi⟩ := h
  refine ⟨a, cap, rfl, fun i x hx => ?_⟩
  obtain ⟨b, off, e, hb, hc⟩ := hi i x hx
  exact ⟨b, off, e, by omega, hc⟩

theorem PAt.store {w wr w2 : World} {v : Value} {N : List Int} {l i : Nat} {cs cs' : List Value} (h : PAt w wr v N l i cs) (hv : VarAt w2 (w.heap.size + 2) cs' 29) (k : Touch (fun g => g = w.heap.size + 2) wr w2) : PAt w w2 v N l i cs' :=
  ⟨h.mkr.touch k (fun b hb => by omega), Touch.low h.bel k (fun g hg => by omega), h.res.touch k (by omega), hv⟩
theorem info25 : (Try.prog.info? 25).map (·.size) = some 1 := by kernel_rfl

/-- A program that was made. -/
structure MakeOut (w w' : World) (N : List Int) (p : Pg) : Prop where
  ok : p.ok w' (fun g => w.heap.size ≤ g)
  bare : p.bare = makeM N
  bel : Below w.heap.size w w'
  tr : ∀ t ∈ p.threads, ∀ s ∈ t.body, s.right.e.tr.toList ≠ [122]
  apart : ∀ t0 rest, p.threads = t0 :: rest →
    (RowAt w' (fun g => w.heap.size ≤ g ∧ t0.bv.ownBlock ≠ some g) 4 p.rv p.recs.length (p.recs.flatMap Rc.cells) ∧ ∀ k, k ∈ p.recs → k.ok w' (fun g => w.heap.size ≤ g ∧ t0.bv.ownBlock ≠ some g)) ∧
    nmsOk w' (fun g => w.heap.size ≤ g ∧ t0.bv.ownBlock ≠ some g) p.gv p.globs ∧
    (RowAt w' (fun g => w.heap.size ≤ g ∧ t0.bv.ownBlock ≠ some g) 5 p.fv p.funs.length (p.funs.flatMap Fn.cells) ∧ ∀ k, k ∈ p.funs → k.ok w' (fun g => w.heap.size ≤ g ∧ t0.bv.ownBlock ≠ some g)) ∧
    RowAt w' (fun g => w.heap.size ≤ g ∧ t0.bv.ownBlock ≠ some g) 3 p.tv p.threads.length (p.threads.flatMap Th.cells) ∧
    (∀ s ∈ t0.body, s.ok w' (fun g => w.heap.size ≤ g ∧ t0.bv.ownBlock ≠ some g)) ∧ ∀ t ∈ rest, t.ok w' (fun g => w.heap.size ≤ g ∧ t0.bv.ownBlock ≠ some g)

theorem ThAt.out {w wr w9 : World} {v : Value} {N : List Int} {h2 h3 : Nat} {recs : List Rc} {rv : Value} {globs : List Nm} {gv : Value} {funs : List Fn} {fv : Value} {T : (List Th × Nat) × Nat} {vt : Value} {ta : List Th} {i l : Nat}
    (h : ThAt w wr v N h2 h3 recs rv globs gv funs fv T vt ta 0 i l) (t9 : Touch (fun g => g = w.heap.size) wr w9) (hb : (⟨recs, rv, globs, gv, funs, fv, ta, vt⟩ : Pg).bare = makeM N) : MakeOut w w9 N ⟨recs, rv, globs, gv, funs, fv, ta, vt⟩ := by
  have lo := h.low
  have md := h.mid
  have bg := h.big
  have k : ∀ g, w.heap.size + 2 < g → g < wr.heap.size → w9.heap[g]? = wr.heap[g]? := fun g h1 h2 => t9.block g h2 (by omega)
  have ro : RowAt wr (fun g => h3 < g ∧ vt.ownBlock = some g) 3 vt ta.length (ta.flatMap Th.cells) := RowAt.of_owns h.own (by have := h.few; omega) (fun g hg => by have := own_lt h.own hg; exact ⟨by omega, hg⟩)
  refine ⟨⟨⟨(h.ah.recs.1.keep (fun g hg hl => k g hg.1 hl)).mono (fun g hg hl => by omega), fun x hx => Rc.ok.mono (Rc.ok.keep (h.ah.recs.2 x hx) (fun g hg hl => k g hg.1 hl)) (fun g hg hl => by omega)⟩,
    nmsOk.mono (nmsOk.keep h.ah.globs (fun g hg hl => k g hg.1 hl)) (fun g hg hl => by omega),
    ⟨(h.fns.1.keep (fun g hg hl => k g (by omega) hl)).mono (fun g hg hl => by omega), fun x hx => Fn.ok.mono (Fn.ok.keep (h.fns.2 x hx) (fun g hg hl => k g (by omega) hl)) (fun g hg hl => by omega)⟩,
    ⟨(ro.keep (fun g hg hl => k g (by omega) hl)).mono (fun g hg hl => by omega), fun x hx => Th.ok.mono (Th.ok.keep (h.ok x hx) (fun g hg hl => k g (by omega) hl)) (fun g hg hl => by omega)⟩⟩, hb, Touch.low h.at_.bel t9 (fun g hg => by omega), h.tr, ?_⟩
  intro t0 rest he
  obtain ⟨a1, a2, a3⟩ := h.fst t0 rest he
  have nb : ∀ g, g ≤ h3 → t0.bv.ownBlock ≠ some g := fun g hg e => by have := a3 g e; omega
  refine ⟨⟨(h.ah.recs.1.keep (fun g hg hl => k g hg.1 hl)).mono (fun g hg hl => ⟨by omega, nb g (by omega)⟩), fun x hx => Rc.ok.mono (Rc.ok.keep (h.ah.recs.2 x hx) (fun g hg hl => k g hg.1 hl)) (fun g hg hl => ⟨by omega, nb g (by omega)⟩)⟩,
    nmsOk.mono (nmsOk.keep h.ah.globs (fun g hg hl => k g hg.1 hl)) (fun g hg hl => ⟨by omega, nb g (by omega)⟩),
    ⟨(h.fns.1.keep (fun g hg hl => k g (by omega) hl)).mono (fun g hg hl => ⟨by omega, nb g (by omega)⟩), fun x hx => Fn.ok.mono (Fn.ok.keep (h.fns.2 x hx) (fun g hg hl => k g (by omega) hl)) (fun g hg hl => ⟨by omega, nb g (by omega)⟩)⟩,
    (ro.keep (fun g hg hl => k g (by omega) hl)).mono (fun g hg hl => ⟨by omega, fun e => (a3 g e).2.2 hg.2⟩),
    fun s hs => ((a1 s hs).keep (fun g hg hl => k g (by omega) hl)).mono (fun g hg hl => ⟨by omega, hg.2.1⟩),
    fun t ht => Th.ok.mono (Th.ok.keep (a2 t ht) (fun g hg hl => k g (by omega) hl)) (fun g hg hl => ⟨by omega, hg.2.1⟩)⟩

/-- Make's memory at its start. -/
theorem PAt.start (w : World) (v : Value) (N : List Int) (hI : IsInts w w.heap.size v N) (hf : N.length ≤ 400) :
    PAt w (((w.alloc (.cells #[.slice none 0 0, .slice none 0 0, .slice none 0 0, .slice none 0 0] 29)).alloc (.cells #[v, .int .i64 0, .int .i64 60] 71)).alloc (.cells #[.slice none 0 0, .slice none 0 0, .slice none 0 0, .slice none 0 0] 29)) v N 60 0 [.slice none 0 0, .slice none 0 0, .slice none 0 0, .slice none 0 0] := by
  have b3 : Below w.heap.size w (((w.alloc (.cells #[.slice none 0 0, .slice none 0 0, .slice none 0 0, .slice none 0 0] 29)).alloc (.cells #[v, .int .i64 0, .int .i64 60] 71)).alloc (.cells #[.slice none 0 0, .slice none 0 0, .slice none 0 0, .slice none 0 0] 29)) := Below.over (below_two _ _ _) ((Below.refl _ _).alloc (Nat.le_refl _) _)
  refine ⟨⟨?_, ?_, hf, Nat.zero_le _, by omega⟩, b3, ?_, ?_⟩
  · rw [Below.heap_alloc _ _ _ (by simp)]
    have := heap_alloc_new (w.alloc (.cells #[.slice none 0 0, .slice none 0 0, .slice none 0 0, .slice none 0 0] 29)) (.cells #[v, .int .i64 0, .int .i64 60] 71)
    rw [World.size_alloc] at this
    exact this
  · exact (hI.keep (fun b hb => b3.block b hb)).up (by omega)
  · exact (VarAt.new w _ 29).kept (below_two _ _ _)
  · have := VarAt.new ((w.alloc (.cells #[.slice none 0 0, .slice none 0 0, .slice none 0 0, .slice none 0 0] 29)).alloc (.cells #[v, .int .i64 0, .int .i64 60] 71)) [.slice none 0 0, .slice none 0 0, .slice none 0 0, .slice none 0 0] 29
    rw [World.size_alloc, World.size_alloc] at this
    exact this

set_option maxRecDepth 100000 in
set_option maxHeartbeats 1000000 in
theorem make_any (w : World) (v : Value) (N : List Int) (hI : IsInts w w.heap.size v N) (hf : N.length ≤ 400) :
    Calls Try.prog 8 #[v] w fun e w' => ∃ p : Pg, e = .returned p.val ∧ MakeOut w w' N p := by
  have A := hid (PAt.start w v N hI hf)
  have C := fun W hm => pick_any W (w.heap.size + 1) v N 0 60 3 hm (by omega) (by omega)
  have hk := pk_lt N 3 0 (by omega)
  have E : Hid (recsN N = recsM N (pk N 3 0) (nx N 0)) := hid rfl
  have ef23 : Hid (∀ args w, (callFunc 23 args).run Try.prog w = .ok (.enter 23 args) w) := hid (enters_of Try.func23 (by kernel_rfl) rfl)
  have ef24 : Hid (∀ args w, (callFunc 24 args).run Try.prog w = .ok (.enter 24 args) w) := hid (enters_of Try.func24 (by kernel_rfl) rfl)
  have ef25 : Hid (∀ args w, (callFunc 25 args).run Try.prog w = .ok (.enter 25 args) w) := hid (enters_of Try.func25 (by kernel_rfl) rfl)
  obtain ⟨av, capv, rfl, -⟩ := hI
  generalize pk N 3 0 = k at *
  go_enter Try.func8, Try.ntmps8
  go_wp2_with fail
  generalize hv : Value.slice av N.length capv = v at *
  replace hv := hid hv
  refine (C _ A.out.mkr).mono ?_
  rintro e w1 ⟨rfl, hm⟩
  replace A := hid (A.out.call hm)
  clear C hm
  go_wp2_with fail
  go_loopw [5] (fun vn wr => ∃ (acc : List Rc) (n i' : Nat) (vo : Value), vn = .int .i64 n ∧ Hid (RcAt w wr v N (recsN N) vo acc n i')) (fun vn _ => (intOf vn).toNat)
  case atStart => exact ⟨[], k, nx N 0, .slice none 0 0, rfl, hid ⟨A.out, World.ownsRow_nil _ _ _ _, by simp, by rw [E.out]; simp, by simp; omega⟩⟩
  case round =>
    obtain ⟨acc, n, i', vo, rfl, hat⟩ := hrel
    clear A
    cases n with
    | zero =>
      have rr := hat.out.rest
      simp only [recsM, List.append_nil] at rr
      replace rr := hid rr
      have C := fun W hm => names_any W (w.heap.size + 1) v N i' 60 4 hm (by omega) (by omega)
      have zP := hat.out.at_.var.lt
      go_wp2_with fail
      refine (C _ hat.out.at_.mkr).mono ?_
      rintro e w2 ⟨gvv, rfl, hown, hm⟩
      have z2 := hm.1.size
      have hlen : (namesM N 4 i').1.length ≤ 4 := by
        simp only [namesM, namesL_len]
        have := pk_lt N 4 i' (by omega)
        omega
      have A : Hid (PAt w w2 v N 60 (namesM N 4 i').2 [vo, .slice none 0 0, .slice none 0 0, .slice none 0 0]) := hid (hat.out.at_.call hm)
      have AH : Hid (Ahead w w2 (w2.heap.size - 1) acc vo (namesM N 4 i').1 gvv) := hid ⟨⟨(RowAt.of_owns (F := fun g => w.heap.size + 2 < g ∧ g ≤ w2.heap.size - 1) (own_keep hat.out.own (w' := w2) (fun g hg hl => hm.1.block g hl (by omega))) (by have := hat.out.few; omega) (fun g hg => by have := own_lt hat.out.own hg; omega)),
        fun x hx => Rc.ok.mono (Rc.ok.keep (w' := w2) (hat.out.ok x hx) (fun g hg hl => hm.1.block g hl (by omega))) (fun g hg hl => by omega)⟩, RowAt.of_owns hown (by omega) (fun g hg => by have := own_lt hown hg; omega), namesL_ok N _ _⟩
      obtain ⟨pg, cg, rfl⟩ := AH.out.globs.1.form
      clear hown C hm
      have C3 := fun W hm => pick_any W (w.heap.size + 1) v N (namesM N 4 i').2 60 3 hm (by omega) (by omega)
      have hk3 := pk_lt N 3 (namesM N 4 i').2 (by omega)
      have E2 : Hid (funsN N = funsM N (pk N 3 (namesM N 4 i').2) (nx N (namesM N 4 i').2) 60) := hid (by simp only [funsN, globsN, rr.out])
      generalize hh2 : w2.heap.size - 1 = h2 at *
      have zh2 : h2 < w2.heap.size := by omega
      have zl2 : w.heap.size + 2 ≤ h2 := by omega
      clear hh2
      go_wp2_with (refine wl_store_cell 25 _ _ rfl rfl (w.heap.size + 1 + 1) 1 rfl (.slice pg (namesM N 4 i').1.length cg) rfl info25 rfl _ _ A.out.var (by simp) ?_; intro w3 hv3 t3; replace A := hid (A.out.store hv3 t3); replace AH := hid (AH.out.keep (w' := w3) (fun g h1 _ hl => t3.block g hl (by omega))); have zw3 := t3.size; clear hv3 t3)
      refine (C3 _ A.out.mkr).mono ?_
      rintro e w4 ⟨rfl, hm⟩
      replace A := hid (A.out.call hm)
      replace AH := hid (AH.out.keep (w' := w4) (fun g h1 _ hl => hm.1.block g hl (by omega)))
      have zw4 := hm.1.size
      clear C3 hm
      generalize pk N 3 (namesM N 4 i').2 = k2 at *
      go_wp2_with fail
      go_loopw [6] (fun vn wr => ∃ (fa : List Fn) (n j l' : Nat) (vf : Value), vn = .int .i64 n ∧ Hid (FnAt w wr v N h2 acc vo (namesM N 4 i').1 (.slice pg (namesM N 4 i').1.length cg) (funsN N) vf fa n j l')) (fun vn _ => (intOf vn).toNat)
      case atStart => exact ⟨[], k2, nx N (namesM N 4 i').2, 60, .slice none 0 0, rfl, hid ⟨A.out, AH.out, World.ownsRow_nil _ _ _ _, by simp, by rw [E2.out]; simp, by simp; omega, zl2, by omega⟩⟩
      case round =>
        obtain ⟨fa, n, j, l', vf, rfl, hft⟩ := hrel
        clear A AH
        cases n with
        | zero =>
          have rr2 := hft.out.rest
          simp only [funsM, List.append_nil] at rr2
          replace rr2 := hid rr2
          have zP2 := hft.out.at_.var.lt
          have zbg := hft.out.big
          have zlo := hft.out.low
          have C4 := pick_any wr (w.heap.size + 1) v N j l' 4 hft.out.at_.mkr (by omega) (by omega)
          have hk4 := pk_lt N 4 j (by omega)
          have E3 : Hid (thsN N = thsM N (pk N 4 j) (nx N j) l') := hid (by simp only [thsN, rr2.out])
          generalize pk N 4 j = k3 at *
          have FN : Hid (RowAt wr (fun g => h2 < g ∧ g ≤ wr.heap.size - 1) 5 vf fa.length (fa.flatMap Fn.cells) ∧ ∀ k, k ∈ fa → k.ok wr (fun g => h2 < g ∧ g ≤ wr.heap.size - 1)) := hid ⟨RowAt.of_owns hft.out.own (by have := hft.out.few; omega) (fun g hg => by have := own_lt hft.out.own hg; omega), fun x hx => Fn.ok.mono (hft.out.ok x hx) (fun g hg hl => by omega)⟩
          obtain ⟨pf, cf, rfl⟩ := FN.out.1.form
          have zh3 : h2 ≤ wr.heap.size - 1 := by omega
          have zh4 : wr.heap.size - 1 < wr.heap.size := by omega
          generalize wr.heap.size - 1 = h3 at *
          clear hat
          go_wp2_with fail
          refine C4.mono ?_
          rintro e w5 ⟨rfl, hm⟩
          have A := hid (hft.out.at_.call hm)
          have AH := hid (hft.out.ah.keep (w' := w5) (fun g h1 _ hl => hm.1.block g hl (by omega)))
          replace FN := hid (And.intro (FN.out.1.keep (w' := w5) (fun g hg hl => hm.1.block g hl (by omega))) (fun x hx => Fn.ok.keep (w' := w5) (FN.out.2 x hx) (fun g hg hl => hm.1.block g hl (by omega))))
          have zw5 := hm.1.size
          clear C4 hm hft
          go_wp2_with fail
          go_loopw [7] (fun vn wr => ∃ (ta : List Th) (n j l' : Nat) (vt : Value), vn = .int .i64 n ∧ Hid (ThAt w wr v N h2 h3 acc vo (namesM N 4 i').1 (.slice pg (namesM N 4 i').1.length cg) fa (.slice pf fa.length cf) (thsN N) vt ta n j l')) (fun vn _ => (intOf vn).toNat)
          case atStart => exact ⟨[], k3, nx N j, l', .slice none 0 0, rfl, hid ⟨A.out, AH.out, FN.out, World.ownsRow_nil _ _ _ _, by simp, by simp, by intro t0 rest h; simp at h, by rw [E3.out]; simp, by simp; omega, zlo, zh3, by omega⟩⟩
          case round =>
            obtain ⟨ta, n, j', l'', vt, rfl, htt⟩ := hrel
            clear A AH FN
            cases n with
            | zero =>
              have rr3 := htt.out.rest
              simp only [thsM, List.append_nil] at rr3
              have tv := RowAt.of_owns (F := fun _ => True) htt.out.own (by have := htt.out.few; omega) (fun g hg => trivial)
              obtain ⟨pt, ct, rfl⟩ := tv.form
              have ov := hid htt.out.ah.recs.1.one
              have hb : Hid ((⟨acc, vo, (namesM N 4 i').1, .slice pg (namesM N 4 i').1.length cg, fa, .slice pf fa.length cf, ta, .slice pt ta.length ct⟩ : Pg).bare = makeM N) := hid (by
                simp only [Pg.bare, makeM, rr3, rr2.out, globsN, rr.out])
              clear tv rr3
              go_wp2_with (first
                | refine wl_load 29 _ rfl rfl (w.heap.size + 1 + 1) 0 rfl [vo, .slice pg (namesM N 4 i').1.length cg, .slice pf fa.length cf, .slice pt ta.length ct] htt.out.at_.var.range agg29 ?_
                | (refine wl_store_part 29 _ _ rfl rfl w.heap.size 0 rfl [vo, .slice pg (namesM N 4 i').1.length cg, .slice pf fa.length cf, .slice pt ta.length ct] rfl agg29 (by
                    intro u hu
                    simp only [List.mem_cons, List.not_mem_nil, or_false] at hu
                    rcases hu with rfl | rfl | rfl | rfl
                    all_goals first | rfl | exact ov.out) _ _ htt.out.at_.res (by simp) ?_; intro w9 V9 t9; replace V9 := hid V9; replace t9 := hid t9))
              rw [splice_full _ _ (by simp)] at V9
              refine bodyPost_ret (results_cell_row rfl _ _ w.heap.size _ _ _ _ rfl V9.out Try.underlying29 rfl (by kernel_rfl)) rfl ?_
              exact ⟨_, rfl, htt.out.out t9.out hb.out⟩
            | succ n =>
              have hfew := htt.out.few
              obtain ⟨p, c, rfl⟩ : ∃ p c, vt = .slice p ta.length c := by
                rcases htt.out.own.2 with ⟨e, e2⟩ | ⟨g, cap, cur, e, _⟩
                · exact ⟨none, 0, by rw [e, e2]⟩
                · exact ⟨_, _, e⟩
              have c0 : wr.cell? ⟨w.heap.size + 1 + 1, 3, none⟩ = some (.slice p ta.length c) := htt.out.at_.var.cell 3 rfl
              have zP2 := htt.out.at_.var.lt
              have zbg := htt.out.big
              have hmx : ta.length + 1 ≤ maxLen := by simp only [maxLen]; omega
              have C3 : ∀ W, W.heap = wr.heap → Calls Try.prog 25 #[.pointer (some ⟨w.heap.size + 1, 0, none⟩), .int .i64 3] W _ := fun W e => row_any (w.heap.size + 1) v N 3 (by omega) W j' l'' (htt.out.at_.mkr.of_heap e)
              obtain ⟨i0, hi, z0, z1, z2⟩ := info_parts info37
              go_wp2_with fail
              go_region_law
                (first
                  | (refine step_call2 25 ef25.out (by rfl) _ _ _ _ (by rfl) (.pointer (some ⟨w.heap.size + 1, 0, none⟩)) (.int .i64 3) (by rfl) (by rfl) _ (C3 _ rfl) ?_
                     rintro r u4 ⟨⟨lb, ownb, lenb, okb, barb, trb⟩, hm5⟩
                     replace hm5 := made_undrew hm5
                     replace ownb : u4.ownsRow wr.heap.size 52 58 r lb.length (lb.flatMap St.cells) := ownb
                     replace okb : ∀ s ∈ lb, s.ok u4 (fun g => wr.heap.size ≤ g ∧ r.ownBlock ≠ some g) := okb
                     have hbo : stsOk u4 (fun b => wr.heap.size ≤ b) r lb := ⟨RowAt.of_owns ownb (by omega) (fun g hg => by have := own_lt ownb hg; omega), fun s hs => (okb s hs).mono (fun g h1 h2 => by omega)⟩
                     have hxb : Hid (∀ b, r.ownBlock = some b → wr.heap.size ≤ b ∧ b < u4.heap.size) := hid (fun b hb => own_lt ownb hb)
                     obtain ⟨pb, cb, rfl⟩ := hbo.1.form
                     replace hbo := hid hbo
                     have kc4 : u4.cell? ⟨w.heap.size + 1 + 1, 3, none⟩ = some (.slice p ta.length c) := (hm5.1.at (g := w.heap.size + 2) zP2 (by omega) 3).trans c0
                     have kcA : ∀ o, (u4.alloc o).cell? ⟨w.heap.size + 1 + 1, 3, none⟩ = some (.slice p ta.length c) := fun o => (Below.cell ((Below.refl _ u4).alloc (Nat.le_refl _) o) (p := ⟨w.heap.size + 1 + 1, 3, none⟩) (Nat.lt_of_lt_of_le zP2 hm5.1.size)).trans kc4
                     have own4 := hid (own_keep htt.out.own (w' := u4) (fun g hg hl => hm5.1.block g hl (by omega)))
                     have zw : wr.heap.size ≤ u4.heap.size := hm5.1.size
                     have ox : Hid ((⟨lb, .slice pb lb.length cb, 0, 0⟩ : Th).ok u4 (fun b => wr.heap.size ≤ b)) := hid hbo.out
                     replace hm5 := hid hm5
                     replace barb := hid barb
                     replace okb := hid okb
                     replace trb := hid trb
                     clear ownb)
                  | (refine step_append_lies _ (by rfl) _ _ _ (by rfl) (h3 + 1) 37 i0 _ 3 40 Try.underlying27 hi z0 z1 z2 rfl (by omega) (.slice p ta.length c) ta.length (ta.flatMap Th.cells) (by rfl) (own4.out.alloc _)
                       ⟨u4.heap.size, 0, none⟩ 1 1 (⟨lb, .slice pb lb.length cb, 0, 0⟩ : Th).cells (by rfl) (by rfl) (news_new u4 _ 37) (Th.one'' ox.out) (by omega) hmx (by omega) (by simp; omega) (u4.heap.size + 1) (by simp) ?_
                     intro g cap u5 hown hgrow hatg hltg
                     have kc5 : u5.cell? ⟨w.heap.size + 1 + 1, 3, none⟩ = some (.slice p ta.length c) := by
                       rw [hgrow.cell_far _ (by simp; omega) (fun e => by have := (own_lt (g := w.heap.size + 1 + 1) own4.out e.symm).1; omega)]
                       exact kcA _
                     have kf5 : u5.frozen? ⟨w.heap.size + 1 + 1, 3, none⟩ = false := by
                       rw [hgrow.frozen_far _ (by simp; omega) (fun e => by have := (own_lt (g := w.heap.size + 1 + 1) own4.out e.symm).1; omega)]
                       exact ((htt.out.at_.call hm5.out).alloc _).var.frozen 3
                     replace hown := hid hown
                     replace hgrow := hid hgrow))
              all_goals
                replace htt := hid (htt.out.next hm5.out ox.out okb.out hxb.out trb.out (by simp [Th.bare, barb.out]) hown.out hgrow.out hatg)
                go_wp2_with fail
                go_roundw
                case rel => exact ⟨_, n, _, _, _, by go_num, htt⟩
                case measure => simp [intOf]
        | succ n =>
          have hfew := hft.out.few
          obtain ⟨p, c, rfl⟩ : ∃ p c, vf = .slice p fa.length c := by
            rcases hft.out.own.2 with ⟨e, e2⟩ | ⟨g, cap, cur, e, _⟩
            · exact ⟨none, 0, by rw [e, e2]⟩
            · exact ⟨_, _, e⟩
          have c0 : wr.cell? ⟨w.heap.size + 1 + 1, 2, none⟩ = some (.slice p fa.length c) := hft.out.at_.var.cell 2 rfl
          have zP2 := hft.out.at_.var.lt
          have zbg := hft.out.big
          have hmx : fa.length + 1 ≤ maxLen := by simp only [maxLen]; omega
          have C1 : ∀ W, W.heap = wr.heap → Calls Try.prog 23 #[.pointer (some ⟨w.heap.size + 1, 0, none⟩)] W (fun e w' => ∃ r, e = .returned r ∧ (r = .string (nmV (pk N 8 j)) ∧ Made W (w.heap.size + 1) v N l' (nx N j) w')) := fun W e => (name_any W (w.heap.size + 1) v N j l' (hft.out.at_.mkr.of_heap e)).mono (fun e w' h => ⟨_, h.1, rfl, h.2⟩)
          have C2 : ∀ W, Mk W (w.heap.size + 1) v N (nx N j) l' → Calls Try.prog 24 #[.pointer (some ⟨w.heap.size + 1, 0, none⟩), .int .i64 3] W _ := fun W hm => names_any W (w.heap.size + 1) v N (nx N j) l' 3 hm (by omega) (by omega)
          have C3 : ∀ W, Mk W (w.heap.size + 1) v N (namesM N 3 (nx N j)).2 l' → Calls Try.prog 25 #[.pointer (some ⟨w.heap.size + 1, 0, none⟩), .int .i64 2] W _ := fun W hm => row_any (w.heap.size + 1) v N 2 (by omega) W (namesM N 3 (nx N j)).2 l' hm
          obtain ⟨i0, hi, z0, z1, z2⟩ := info_parts info58
          clear hat
          go_wp2_with fail
          go_region_law
            (first
              | (refine step_call1 23 ef23.out (by rfl) _ _ (by rfl) (.pointer (some ⟨w.heap.size + 1, 0, none⟩)) (by rfl) _ (C1 _ rfl) ?_
                 rintro r u2 ⟨rfl, hm2⟩
                 replace hm2 := made_undrew hm2
                 have kc2 : u2.cell? ⟨w.heap.size + 1 + 1, 2, none⟩ = some (.slice p fa.length c) := (hm2.1.at (g := w.heap.size + 2) zP2 (by omega) 2).trans c0
                 replace hm2 := hid hm2)
              | (refine step_call2 24 ef24.out (by rfl) _ _ _ _ (by rfl) (.pointer (some ⟨w.heap.size + 1, 0, none⟩)) (.int .i64 3) (by rfl) (by rfl) _ (C2 _ hm2.out.2) ?_
                 rintro r u3 ⟨hown3, hm3⟩
                 have zu2 : wr.heap.size ≤ u2.heap.size := hm2.out.1.size
                 have hr3 := hid (RowAt.of_owns (F := fun b => wr.heap.size ≤ b) hown3 (by have := namesL_len N (pk N 3 (nx N j)) (nx N (nx N j)); have := pk_lt N 3 (nx N j) (by omega); simp only [namesM]; omega) (fun g hg => by have := own_lt hown3 hg; omega))
                 obtain ⟨pn, cn, rfl⟩ := hr3.out.form
                 have hm4 := made_trans hm2.out hm3
                 have kc3 : u3.cell? ⟨w.heap.size + 1 + 1, 2, none⟩ = some (.slice p fa.length c) := (hm4.1.at (g := w.heap.size + 2) zP2 (by omega) 2).trans c0
                 replace hm4 := hid hm4
                 clear hown3 hm3)
              | (refine step_call2 25 ef25.out (by rfl) _ _ _ _ (by rfl) (.pointer (some ⟨w.heap.size + 1, 0, none⟩)) (.int .i64 2) (by rfl) (by rfl) _ (C3 _ hm4.out.2) ?_
                 rintro r u4 ⟨⟨lb, ownb, lenb, okb, barb, trb⟩, hm5⟩
                 have zu3 : wr.heap.size ≤ u3.heap.size := hm4.out.1.size
                 replace hr3 := hid (hr3.out.keep (w' := u4) (fun g hg hl => hm5.1.block g hl (by omega)))
                 have hbo : stsOk u4 (fun b => wr.heap.size ≤ b) r lb := ⟨RowAt.of_owns ownb (by omega) (fun g hg => by have := own_lt ownb hg; omega), fun s hs => (okb s hs).mono (fun g h1 h2 => by omega)⟩
                 obtain ⟨pb, cb, rfl⟩ := hbo.1.form
                 replace hbo := hid hbo
                 have hm6 := made_trans hm4.out hm5
                 have kc4 : u4.cell? ⟨w.heap.size + 1 + 1, 2, none⟩ = some (.slice p fa.length c) := (hm6.1.at (g := w.heap.size + 2) zP2 (by omega) 2).trans c0
                 have kcA : ∀ o, (u4.alloc o).cell? ⟨w.heap.size + 1 + 1, 2, none⟩ = some (.slice p fa.length c) := fun o => (Below.cell ((Below.refl _ u4).alloc (Nat.le_refl _) o) (p := ⟨w.heap.size + 1 + 1, 2, none⟩) (Nat.lt_of_lt_of_le zP2 hm6.1.size)).trans kc4
                 have own4 := hid (own_keep hft.out.own (w' := u4) (fun g hg hl => hm6.1.block g hl (by omega)))
                 have zw : wr.heap.size ≤ u4.heap.size := hm6.1.size
                 replace hm6 := hid hm6
                 have ox : Hid ((⟨nmV (pk N 8 j), (namesM N 3 (nx N j)).1, .slice pn (namesM N 3 (nx N j)).1.length cn, lb, .slice pb lb.length cb, 0, 0⟩ : Fn).ok u4 (fun b => wr.heap.size ≤ b)) := hid ⟨⟨hr3.out, namesL_ok N _ _⟩, hbo.out⟩
                 replace barb := hid barb
                 clear ownb okb trb hm5)
              | (refine step_append_lies _ (by rfl) _ _ _ (by rfl) (h2 + 1) 58 i0 _ 5 80 Try.underlying26 hi z0 z1 z2 rfl (by omega) (.slice p fa.length c) fa.length (fa.flatMap Fn.cells) (by rfl) (own4.out.alloc _)
                   ⟨u4.heap.size, 0, none⟩ 1 1 (⟨nmV (pk N 8 j), (namesM N 3 (nx N j)).1, .slice pn (namesM N 3 (nx N j)).1.length cn, lb, .slice pb lb.length cb, 0, 0⟩ : Fn).cells (by rfl) (by rfl) (news_new u4 _ 58) (Fn.one'' ox.out) (by omega) hmx (by omega) (by simp; omega) (u4.heap.size + 1) (by simp) ?_
                 intro g cap u5 hown hgrow hatg hltg
                 have kc5 : u5.cell? ⟨w.heap.size + 1 + 1, 2, none⟩ = some (.slice p fa.length c) := by
                   rw [hgrow.cell_far _ (by simp; omega) (fun e => by have := (own_lt (g := w.heap.size + 1 + 1) own4.out e.symm).1; omega)]
                   exact kcA _
                 have kf5 : u5.frozen? ⟨w.heap.size + 1 + 1, 2, none⟩ = false := by
                   rw [hgrow.frozen_far _ (by simp; omega) (fun e => by have := (own_lt (g := w.heap.size + 1 + 1) own4.out e.symm).1; omega)]
                   exact ((hft.out.at_.call hm6.out).alloc _).var.frozen 2
                 replace hown := hid hown
                 replace hgrow := hid hgrow))
          all_goals
            replace hft := hid (hft.out.next hm6.out ox.out (by simp [Fn.bare, barb.out]) hown.out hgrow.out hatg)
            go_wp2_with fail
            go_roundw
            case rel => exact ⟨_, n, _, _, _, by go_num, hft⟩
            case measure => simp [intOf]
    | succ n =>
      have hfew := hat.out.few
      obtain ⟨p, c, rfl⟩ : ∃ p c, vo = .slice p acc.length c := by
        rcases hat.out.own.2 with ⟨e, e2⟩ | ⟨g, cap, cur, e, _⟩
        · exact ⟨none, 0, by rw [e, e2]⟩
        · exact ⟨_, _, e⟩
      have c0 : wr.cell? ⟨w.heap.size + 2, 0, none⟩ = some (.slice p acc.length c) := hat.out.at_.var.cell 0 rfl
      have c0' : wr.cell? ⟨w.heap.size + 1 + 1, 0, none⟩ = some (.slice p acc.length c) := c0
      have zP := hat.out.at_.var.lt
      have hmx : acc.length + 1 ≤ maxLen := by simp only [maxLen]; omega
      have C1 := fun W (e : W.heap = wr.heap) => name_any W (w.heap.size + 1) v N i' 60 (hat.out.at_.mkr.of_heap e)
      have C2 := fun W hm => names_any W (w.heap.size + 1) v N (nx N i') 60 3 hm (by omega) (by omega)
      replace C1 : ∀ W, W.heap = wr.heap → Calls Try.prog 23 #[.pointer (some ⟨w.heap.size + 1, 0, none⟩)] W (fun e w' => ∃ r, e = .returned r ∧ (r = .string (nmV (pk N 8 i')) ∧ Made W (w.heap.size + 1) v N 60 (nx N i') w')) := fun W e => (C1 W e).mono (fun e w' h => ⟨_, h.1, rfl, h.2⟩)
      replace C2 : ∀ W, Mk W (w.heap.size + 1) v N (nx N i') 60 → Calls Try.prog 24 #[.pointer (some ⟨w.heap.size + 1, 0, none⟩), .int .i64 3] W _ := C2
      obtain ⟨i0, hi, z0, z1, z2⟩ := info_parts info76
      go_wp2_with fail
      go_region_law
        (first
          | (refine step_call1 23 ef23.out (by rfl) _ _ (by rfl) (.pointer (some ⟨w.heap.size + 1, 0, none⟩)) (by rfl) _ (C1 _ rfl) ?_
             rintro r w2 ⟨rfl, hm2⟩
             replace hm2 := made_undrew hm2
             have kc2 : w2.cell? ⟨w.heap.size + 1 + 1, 0, none⟩ = some (.slice p acc.length c) := (hm2.1.at (g := w.heap.size + 2) zP (by omega) 0).trans c0
             replace hm2 := hid hm2)
          | (refine step_call2 24 ef24.out (by rfl) _ _ _ _ (by rfl) (.pointer (some ⟨w.heap.size + 1, 0, none⟩)) (.int .i64 3) (by rfl) (by rfl) _ (C2 _ hm2.out.2) ?_
             rintro r w3 ⟨hown3, hm3⟩
             have zw2 : wr.heap.size ≤ w2.heap.size := hm2.out.1.size
             have hr3 := hid (RowAt.of_owns (F := fun b => wr.heap.size ≤ b) hown3 (by have := namesL_len N (pk N 3 (nx N i')) (nx N (nx N i')); have := pk_lt N 3 (nx N i') (by omega); simp only [namesM]; omega) (fun g hg => by have := own_lt hown3 hg; omega))
             obtain ⟨pn, cn, rfl⟩ := hr3.out.form
             have hm4 := made_trans hm2.out hm3
             have kc3 : w3.cell? ⟨w.heap.size + 1 + 1, 0, none⟩ = some (.slice p acc.length c) := (hm4.1.at (g := w.heap.size + 2) zP (by omega) 0).trans c0
             have kcA : ∀ o, (w3.alloc o).cell? ⟨w.heap.size + 1 + 1, 0, none⟩ = some (.slice p acc.length c) := fun o => (Below.cell ((Below.refl _ w3).alloc (Nat.le_refl _) o) (p := ⟨w.heap.size + 1 + 1, 0, none⟩) (Nat.lt_of_lt_of_le zP hm4.1.size)).trans kc3
             have own4 := hid (own_keep hat.out.own (w' := w3) (fun g hg hl => hm4.1.block g hl (by omega)))
             have zw : wr.heap.size ≤ w3.heap.size := hm4.1.size
             replace hm4 := hid hm4
             have ox : Hid ((⟨nmV (pk N 8 i'), (namesM N 3 (nx N i')).1, .slice pn (namesM N 3 (nx N i')).1.length cn, 0, 0⟩ : Rc).ok w3 (fun b => wr.heap.size ≤ b)) := hid ⟨hr3.out, namesL_ok N _ _⟩
             clear hown3 hm3)
          | (refine step_append_lies _ (by rfl) _ _ _ (by rfl) (w.heap.size + 3) 76 i0 _ 4 56 Try.underlying24 hi z0 z1 z2 rfl (by omega) (.slice p acc.length c) acc.length (acc.flatMap Rc.cells) (by rfl) (own4.out.alloc _)
               ⟨w3.heap.size, 0, none⟩ 1 1 (⟨nmV (pk N 8 i'), (namesM N 3 (nx N i')).1, .slice pn (namesM N 3 (nx N i')).1.length cn, 0, 0⟩ : Rc).cells (by rfl) (by rfl) (news_new w3 _ 76) (Rc.one'' ox.out) (by omega) hmx (by omega) (by simp; omega) (w3.heap.size + 1) (by simp) ?_
             intro g cap w5 hown hgrow hatg hltg
             have kc5 : w5.cell? ⟨w.heap.size + 1 + 1, 0, none⟩ = some (.slice p acc.length c) := by
               rw [hgrow.cell_far _ (by simp; omega) (fun e => by have := (own_lt (g := w.heap.size + 1 + 1) own4.out e.symm).1; omega)]
               exact kcA _
             have kf5 : w5.frozen? ⟨w.heap.size + 1 + 1, 0, none⟩ = false := by
               rw [hgrow.frozen_far _ (by simp; omega) (fun e => by have := (own_lt (g := w.heap.size + 1 + 1) own4.out e.symm).1; omega)]
               exact ((hat.out.at_.call hm4.out).alloc _).var.frozen 0
             replace hown := hid hown
             replace hgrow := hid hgrow))
      all_goals
        replace hat := hid (hat.out.next hm4.out ox.out rfl hown.out hgrow.out hatg)
        go_wp2_with fail
        go_roundw
        case rel => exact ⟨_, n, _, _, by go_num, hat⟩
        case measure => simp [intOf]
end Go.Proofs.Ytfdfeiempeciiaa
