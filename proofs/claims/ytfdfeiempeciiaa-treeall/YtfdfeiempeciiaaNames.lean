/- The contract of the maker's names. -/
import Derived.Test.YtfdfeiempeciiaaJoinA
import Derived.Test.YtfdfeiempeciiaaMade
namespace Go.Proofs.Ytfdfeiempeciiaa
open Go.ChangeShapes Go.WideShapes Go.ChangeAt Go.RowKit
set_option linter.unusedVariables false

theorem own_keep {w w' : World} {base : Nat} {e : TypeId} {size : Nat} {v : Value} {n : Nat} {xs : List Value} (h : w.ownsRow base e size v n xs) (k : ∀ g, base ≤ g → g < w.heap.size → w'.heap[g]? = w.heap[g]?) : w'.ownsRow base e size v n xs := by
  refine ⟨h.1, ?_⟩
  rcases h.2 with h2 | ⟨g, cap, cur, hv, hb, hg, rest⟩
  · exact .inl h2
  · exact .inr ⟨g, cap, cur, hv, hb, (k g hb (Array.getElem?_eq_some_iff.1 hg).1).trans hg, rest⟩
theorem own_low {w : World} {base base' : Nat} {e : TypeId} {size : Nat} {v : Value} {n : Nat} {xs : List Value} (h : w.ownsRow base e size v n xs) (b : base' ≤ base) : w.ownsRow base' e size v n xs := by
  refine ⟨h.1, ?_⟩
  rcases h.2 with h2 | ⟨g, cap, cur, hv, hb, hg, rest⟩
  · exact .inl h2
  · exact .inr ⟨g, cap, cur, hv, Nat.le_trans b hb, hg, rest⟩
theorem own_lt {w : World} {base : Nat} {e : TypeId} {size : Nat} {v : Value} {n : Nat} {xs : List Value} (h : w.ownsRow base e size v n xs) {g : Nat} (hg : v.ownBlock = some g) : base ≤ g ∧ g < w.heap.size := by
  rcases h.2 with ⟨rfl, _⟩ | ⟨g', cap, cur, rfl, hb, hg', rest⟩
  · simp [Value.ownBlock] at hg
  · simp [Value.ownBlock] at hg
    subst hg
    exact ⟨hb, (Array.getElem?_eq_some_iff.1 hg').1⟩
theorem Touch.grown {T : Nat → Prop} {a w w' : World} {row : Option Nat} (h : Touch T a w) (hg : w.grownBy w' row) (hr : ∀ k, row = some k → a.heap.size ≤ k) : Touch T a w' :=
  ⟨hg.os.trans h.os, hg.tape.trans h.tape, hg.output.trans h.output, Nat.le_trans h.size hg.size, fun b hb hT => (hg.block b (Nat.lt_of_lt_of_le hb h.size) (fun e => by have := hr b e.symm; omega)).trans (h.block b hb hT)⟩
theorem Mk.grown {w w' : World} {M : Nat} {v : Value} {N : List Int} {i l : Nat} {row : Option Nat} (h : Mk w M v N i l) (hg : w.grownBy w' row) (hr : ∀ k, row = some k → M < k) : Mk w' M v N i l :=
  ⟨(hg.block M h.lt (fun e => by have := hr M e.symm; omega)).trans h.obj, h.ints.keep (fun b hb => hg.block b (Nat.lt_trans hb h.lt) (fun e => by have := hr b e.symm; omega)), h.few, h.here, h.left⟩

theorem news_new (w : World) (cs : List Value) (t : TypeId) : ∀ j u, cs[j]? = some u → (w.alloc (.cells cs.toArray t)).cell? ((⟨w.heap.size, 0, none⟩ : Addr).add j) = some u := fun j u hu =>
  World.news_of_block (heap_alloc_new w (.cells cs.toArray t)) j u (by simpa using hu)
theorem Nm.one' (e : Nm) : ∀ v ∈ e.cells, v.oneCell' = true := by
  intro v hv
  simp only [Nm.cells, List.mem_cons, List.not_mem_nil, or_false] at hv
  rcases hv with rfl | rfl | rfl | rfl | rfl
  all_goals rfl
theorem Made.grown {w w1 w2 : World} {M : Nat} {v : Value} {N : List Int} {l i : Nat} {row : Option Nat} (h : Made w M v N l i w1) (k : w1.grownBy w2 row) (hr : ∀ g, row = some g → w.heap.size ≤ g) (hM : M < w.heap.size) : Made w M v N l i w2 :=
  ⟨h.1.grown k hr, h.2.grown k (fun g hg => by have := hr g hg; omega)⟩
theorem Made.new {w w1 : World} {M : Nat} {v : Value} {N : List Int} {l i : Nat} (h : Made w M v N l i w1) (o : Obj) : Made w M v N l i (w1.alloc o) := ⟨h.1.alloc o, h.2.alloc o⟩

/-- What holds while names are made. -/
structure NAt (w wr : World) (M : Nat) (v : Value) (N : List Int) (l : Nat) (T : List Nm × Nat) (vo : Value) (acc : List Nm) (n i : Nat) : Prop where
  own : wr.ownsRow w.heap.size 82 5 vo acc.length (acc.flatMap Nm.cells)
  made : Made w M v N l i wr
  rest : T = (acc ++ (namesL N n i).1, (namesL N n i).2)
  few : n + acc.length ≤ 1000

set_option maxRecDepth 100000 in
set_option maxHeartbeats 4000000 in
theorem names_any (w : World) (M : Nat) (v : Value) (N : List Int) (i l most : Nat) (h : Mk w M v N i l) (h0 : 0 < most) (h1 : most ≤ 1000) :
    Calls Try.prog 24 #[.pointer (some ⟨M, 0, none⟩), .int .i64 most] w fun e w' => ∃ r, e = .returned r ∧ w'.ownsRow w.heap.size 82 5 r (namesM N most i).1.length ((namesM N most i).1.flatMap Nm.cells) ∧ Made w M v N l (namesM N most i).2 w' := by
  have hlt := h.lt
  have C := pick_any w M v N i l most h h0 h1
  have C1 := fun W i hm => name_any W M v N i l hm
  have C2 := fun W i hm => kind_any W M v N i l hm
  have hk := pk_lt N most i h0
  have E : Hid (namesM N most i = namesL N (pk N most i) (nx N i)) := hid rfl
  obtain ⟨i0, hi, z0, z1, z2⟩ := info_parts info82
  generalize namesM N most i = T at *
  generalize pk N most i = k at *
  clear h
  go_enter Try.func24, Try.ntmps24
  go_wp2_with fail
  refine C.mono ?_
  rintro e w1 ⟨rfl, hm⟩
  replace hm := hid hm
  clear C
  go_wp2_with fail
  go_loopw [5, 6] (fun vo vn wr => ∃ (acc : List Nm) (n i' : Nat), vn = .int .i64 n ∧ Hid (NAt w wr M v N l T vo acc n i')) (fun _ vn _ => (intOf vn).toNat)
  case atStart => exact ⟨[], k, nx N i, rfl, hid ⟨World.ownsRow_nil _ _ _ _, hm.out, by rw [E.out]; simp, by simp; omega⟩⟩
  case round =>
    obtain ⟨acc, n, i', rfl, hat⟩ := hrel
    clear hm
    cases n with
    | zero =>
      have rr := hat.out.rest
      simp only [namesL, List.append_nil] at rr
      replace rr := hid rr
      go_wp2
      go_ret
      exact ⟨_, rfl, by rw [rr.out]; exact hat.out.own, by rw [rr.out]; exact hat.out.made⟩
    | succ n =>
      have hfew := hat.out.few
      go_wp2_with fail
      refine (C1 _ _ hat.out.made.2).mono ?_
      rintro e w2 ⟨rfl, hm2⟩
      have own2 := hid (own_keep hat.out.own (fun g hg hl => hm2.1.block g hl (by omega)))
      replace hm2 := hid (made_trans hat.out.made hm2)
      go_wp2_with fail
      refine (C2 _ _ hm2.out.2).mono ?_
      rintro e w3 ⟨rfl, hm3⟩
      replace own2 := hid (own_keep own2.out (fun g hg hl => hm3.1.block g hl (by omega)))
      replace hm3 := hid (made_trans hm2.out hm3)
      clear hm2
      have hsz := hm3.out.1.size
      have rr := hat.out.rest
      rw [namesL] at rr
      replace rr := hid rr
      have hmx : acc.length + 1 ≤ maxLen := by simp only [maxLen]; omega
      clear C1 C2
      go_wp2_with (first
        | refine wl_slice1 25 82 _ 5 56 _ rfl rfl Try.underlying25 info82 (by omega) (by omega) (⟨nmV (pk N 8 i'), (kindM N (nx N i')).1.1, (kindM N (nx N i')).1.2, 0, 0⟩ : Nm).cells rfl rfl ?_
        | (at_builtin; refine wpList_append_lies _ rfl _ _ 25 rfl w.heap.size 82 i0 Nm.zero.val 5 56 Try.underlying25 hi z0 z1 z2 rfl (by decide) _ acc.length (acc.flatMap Nm.cells) rfl (own2.out.alloc _) ⟨w3.heap.size, 0, none⟩ 1 1 (⟨nmV (pk N 8 i'), (kindM N (nx N i')).1.1, (kindM N (nx N i')).1.2, 0, 0⟩ : Nm).cells rfl rfl (news_new w3 _ 82) (Nm.one' _) (by omega) hmx (by omega) (by simp only [World.size_alloc]; omega) _ rfl ?_; intro g cap w5 hown hgrow hat2 hlt2; replace hown := hid hown; replace hgrow := hid hgrow))
      go_roundw
      case rel =>
        refine ⟨acc ++ [(⟨nmV (pk N 8 i'), (kindM N (nx N i')).1.1, (kindM N (nx N i')).1.2, 0, 0⟩ : Nm)], n, (kindM N (nx N i')).2, by go_num, hid ⟨?_, ?_, ?_, by simp; omega⟩⟩
        · have := hown.out
          simpa using this
        · exact (hm3.out.new _).grown hgrow.out (fun g hg => (own_lt own2.out hg).1) hlt
        · rw [rr.out]
          simp
      case measure => simp [intOf]
end Go.Proofs.Ytfdfeiempeciiaa
