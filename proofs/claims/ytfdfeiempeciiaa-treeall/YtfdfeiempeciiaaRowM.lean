/- The contract of the maker's row, out of that of its stmt. -/
import Derived.Test.YtfdfeiempeciiaaStmtBase
import Derived.Deep.AppendLies
namespace Go.Proofs.Ytfdfeiempeciiaa
open Go.ChangeShapes Go.WideShapes Go.ChangeAt Go.RowKit
set_option linter.unusedVariables false

/-- What holds while a row is made. -/
structure RAt (w wr : World) (M : Nat) (v : Value) (N : List Int) (stmt : Nat → Nat → (St × Nat) × Nat) (T : (List St × Nat) × Nat) (vo : Value) (acc : List St) (n i l : Nat) : Prop where
  own : wr.ownsRow w.heap.size 52 58 vo acc.length (acc.flatMap St.cells)
  ok : ∀ s ∈ acc, s.ok wr (fun g => w.heap.size ≤ g ∧ vo.ownBlock ≠ some g)
  tr : ∀ s ∈ acc, s.right.e.tr.toList ≠ [122]
  made : Made w M v N l i wr
  rest : T = ((acc.map St.bare ++ (rowF stmt n i l).1.1, (rowF stmt n i l).1.2), (rowF stmt n i l).2)
  few : n + acc.length ≤ 100

/-- One statement more. -/
theorem RAt.next {w wr w3 w4 w5 : World} {M : Nat} {v : Value} {N : List Int} {stmt : Nat → Nat → (St × Nat) × Nat} {T : (List St × Nat) × Nat} {p : Option Addr} {acc : List St} {c n i l : Nat} {x : St} {o : Obj} {g cap : Nat} (hM : M < w.heap.size)
    (h : RAt w wr M v N stmt T (.slice p acc.length c) acc (n + 1) i (l + 1)) (t3 : Touch (fun b => b = M) wr w3) (hm : Made w3 M v N (stmt i l).2 (stmt i l).1.2 w4) (hx : x.ok w4 (fun b => w3.heap.size ≤ b)) (hb : x.bare = (stmt i l).1.1) (hz : x.right.e.tr.toList ≠ [122])
    (hown : w5.ownsRow w.heap.size 52 58 (.slice (some ⟨g, 0, none⟩) (acc.length + 1) cap) (acc.length + 1) (acc.flatMap St.cells ++ x.cells)) (hgrow : (w4.alloc o).grownBy w5 (Value.slice p acc.length c).ownBlock)
    (hat : (Value.slice p acc.length c).ownBlock = some g ∨ g = w4.heap.size + 1) :
    RAt w w5 M v N stmt T (.slice (some ⟨g, 0, none⟩) (acc.length + 1) cap) (acc ++ [x]) n (stmt i l).1.2 (stmt i l).2 := by
  have tt := t3.trans hm.1
  have z3 := t3.size
  have z4 := hm.1.size
  have z0 := h.made.1.size
  have hrow : ∀ b, (Value.slice p acc.length c).ownBlock = some b → w.heap.size ≤ b ∧ b < wr.heap.size := fun b hb => own_lt h.own hb
  have keep : ∀ b, (Value.slice p acc.length c).ownBlock ≠ some b → b < w4.heap.size → w5.heap[b]? = w4.heap[b]? := fun b h2 h3 => by
    rw [hgrow.block b (by simp; omega) (fun e => h2 e.symm), Below.heap_alloc _ _ _ h3]
  refine ⟨by simpa using hown, fun y hy => ?_, fun y hy => ?_, ?_, ?_, by have := h.few; simp; omega⟩
  · simp only [List.mem_append, List.mem_cons, List.not_mem_nil, or_false] at hy
    rcases hy with hy | rfl
    · have h2 := (h.ok y hy).mono (G := fun b => (w.heap.size ≤ b ∧ (Value.slice p acc.length c).ownBlock ≠ some b) ∧ b < wr.heap.size) (fun b hb hl => ⟨hb, hl⟩)
      have h3 := h2.keep (w' := w4) (fun b hb hl => tt.block b hl (by omega))
      have h4 := h3.keep (w' := w5) (fun b hb hl => keep b hb.1.2 hl)
      exact h4.mono (fun b hb hl => ⟨hb.1.1, fun e => by
        simp [Value.ownBlock] at e
        subst e
        rcases hat with h | h
        · exact hb.1.2 h
        · omega⟩)
    · have h2 := hx.mono (G := fun b => w3.heap.size ≤ b ∧ b < w4.heap.size) (fun b hb hl => ⟨hb, hl⟩)
      have h4 := h2.keep (w' := w5) (fun b hb hl => keep b (fun e => by have := hrow b e; omega) hl)
      exact h4.mono (fun b hb hl => ⟨by omega, fun e => by
        simp [Value.ownBlock] at e
        subst e
        rcases hat with h | h
        · have := hrow _ h
          omega
        · omega⟩)
  · simp only [List.mem_append, List.mem_cons, List.not_mem_nil, or_false] at hy
    rcases hy with hy | rfl
    · exact h.tr y hy
    · exact hz
  · have : Made w M v N (stmt i l).2 (stmt i l).1.2 w4 := ⟨h.made.1.trans tt, hm.2⟩
    exact (this.new o).grown hgrow (fun b hb => (hrow b hb).1) hM
  · rw [h.rest, rowF, if_neg (by omega)]
    simp [hb]

set_option maxRecDepth 100000 in
set_option maxHeartbeats 1000000 in
theorem row_step (M : Nat) (v : Value) (N : List Int) (d : Nat) (hd : d ≤ 3) (stmt : Nat → Nat → (St × Nat) × Nat)
    (D : ∀ W i l, Mk W M v N i l → Calls Try.prog 45 #[.pointer (some ⟨M, 0, none⟩), .int .i64 d] W fun e w' => ∃ r, e = .returned r ∧ StOut W w' r (stmt i l).1.1 ∧ Made W M v N (stmt i l).2 (stmt i l).1.2 w')
    (w : World) (i l : Nat) (h : Mk w M v N i l) :
    Calls Try.prog 25 #[.pointer (some ⟨M, 0, none⟩), .int .i64 d] w fun e w' => ∃ r, e = .returned r ∧ RowOut w w' r (rowF stmt (pk N 4 i) (nx N i) l).1.1 ∧ Made w M v N (rowF stmt (pk N 4 i) (nx N i) l).2 (rowF stmt (pk N 4 i) (nx N i) l).1.2 w' := by
  have hlt := h.lt
  have C := pick_any w M v N i l 4 h (by omega) (by omega)
  have hk := pk_lt N 4 i (by omega)
  generalize hT : rowF stmt (pk N 4 i) (nx N i) l = T at *
  replace hT := hid hT
  generalize pk N 4 i = k at *
  clear h
  go_enter Try.func25, Try.ntmps25
  go_wp2_with fail
  refine C.mono ?_
  rintro e w1 ⟨rfl, hm⟩
  replace hm := hid hm
  clear C
  go_wp2_with fail
  go_loopw [5, 6] (fun u vn wr => ∃ (acc : List St) (n i' l' : Nat) (vo : Value), vo = u ∧ vn = .int .i64 n ∧ Hid (RAt w wr M v N stmt T vo acc n i' l')) (fun _ vn _ => (intOf vn).toNat)
  case atStart => exact ⟨[], k, nx N i, l, _, rfl, rfl, hid ⟨World.ownsRow_nil _ _ _ _, by simp, by simp, hm.out, by rw [← hT.out]; simp, by simp; omega⟩⟩
  case round =>
    obtain ⟨acc, n, i', l', vo, rfl, rfl, hat⟩ := hrel
    clear hm
    have c2 : wr.cell? ⟨M, 2, none⟩ = some (.int .i64 l') := hat.out.made.2.cell 2
    have f2 := hat.out.made.2.frozen 2
    have hl60 := hat.out.made.2.left
    have fin : (n = 0 ∨ l' = 0) → Hid (RowOut w wr vo T.1.1 ∧ Made w M v N T.2 T.1.2 wr) := fun hh => hid (by
      have e : rowF stmt n i' l' = (([], i'), l') := by
        cases n with
        | zero => rfl
        | succ n =>
          have : l' = 0 := by omega
          subst this
          rw [rowF, if_pos rfl]
      have rr := hat.out.rest
      rw [e, List.append_nil] at rr
      rw [rr]
      exact ⟨⟨acc, hat.out.own, by have := hat.out.few; omega, hat.out.ok, rfl, hat.out.tr⟩, hat.out.made⟩)
    cases n with
    | zero =>
      replace fin := fin (.inl rfl)
      go_wp2
      go_ret
      exact ⟨_, rfl, fin.out⟩
    | succ n =>
      cases l' with
      | zero =>
        replace fin := fin (.inr rfl)
        go_wp2
        go_ret
        exact ⟨_, rfl, fin.out⟩
      | succ l' =>
        clear fin
        have hfew := hat.out.few
        obtain ⟨p, c, rfl⟩ : ∃ p c, vo = .slice p acc.length c := by
          rcases hat.out.own.2 with ⟨e, e2⟩ | ⟨g, cap, cur, e, _⟩
          · exact ⟨none, 0, by rw [e, e2]⟩
          · exact ⟨_, _, e⟩
        have hmk := hid (hat.out.made.2.set2 l' (by omega))
        have t3 : Hid (Touch (fun b => b = M) wr (wr.setCell ⟨M, 2, none⟩ (.int .i64 l'))) := hid (Touch.setCell _ _ _ rfl)
        have hmx : acc.length + 1 ≤ maxLen := by simp only [maxLen]; omega
        obtain ⟨i0, hi, z0, z1, z2⟩ := info_parts info52
        go_wp2_with fail
        refine (D _ _ _ hmk.out).mono ?_
        rintro e w4 ⟨r, rfl, ⟨x, rfl, hx, hb, hz⟩, hm⟩
        generalize wr.setCell ⟨M, 2, none⟩ (.int .i64 (l' : Int)) = w3 at *
        have z3 := t3.out.size
        have z4 := hm.1.size
        have own4 := hid (own_keep hat.out.own (w' := w4) (fun g hg hl => (t3.out.trans hm.1).block g hl (by omega)))
        have ox := hid hx.hd.one
        have z0' := hat.out.made.1.size
        replace hx := hid hx
        replace hm := hid hm
        replace hb := hid hb
        replace hz := hid hz
        clear D c2 f2 hmk
        unfold St.val
        go_wp2_with (first
          | refine wl_slice1 35 52 _ 58 688 _ rfl rfl Try.underlying35 info52 (by omega) (by omega) x.cells rfl rfl ?_
          | (at_builtin; refine wpList_append_lies _ rfl _ _ 35 rfl w.heap.size 52 i0 St.zero.val 58 688 Try.underlying35 hi z0 z1 z2 rfl (by decide) _ acc.length (acc.flatMap St.cells) rfl (own4.out.alloc _) ⟨w4.heap.size, 0, none⟩ 1 1 x.cells rfl rfl (news_new w4 _ 52) ox.out (by omega) hmx (by omega) (by simp only [World.size_alloc]; omega) (w4.heap.size + 1) (by simp) ?_; intro g cap w5 hown hgrow hatg hlt2; replace hown := hid hown; replace hgrow := hid hgrow))
        replace hat := hid (hat.out.next hlt t3.out hm.out hx.out hb.out hz.out hown.out hgrow.out hatg)
        go_roundw
        case rel => exact ⟨_, n, _, _, _, rfl, by go_num, hat⟩
        case measure => simp [intOf]
end Go.Proofs.Ytfdfeiempeciiaa
