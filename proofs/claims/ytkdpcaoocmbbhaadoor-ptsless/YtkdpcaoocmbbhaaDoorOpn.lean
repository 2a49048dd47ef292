/- An argument that is a code reads as plain data. -/
import Derived.Test.YtkdpcaoocmbbhaaDoorM00
namespace Go.Proofs.YtkdpcaoocmbbhaaDoor
open Go.ChangeShapes Go.WideShapes Go.ChangeAt Go.RowKit Go.Deep
set_option maxRecDepth 100000
set_option linter.unusedVariables false


theorem i64_of {n : Int} (h : (Lit.int .i64 n).wf = true) : I64 n := bounds_i64 h

theorem cells_range (w : World) (a : Addr) (n : Nat) (cs : List Value) (h : w.cells? 0 a n = some cs) : cs.length = n ∧ ∀ j u, cs[j]? = some u → w.cell? (a.add j) = some u := by
  unfold World.cells? at h
  split at h
  · have hl := mapM_some_length h
    refine ⟨by simpa using hl, fun j u hj => ?_⟩
    have hjn : j < n := by have := (List.getElem?_eq_some_iff.1 hj).1; simp at hl; omega
    have := mapM_some_get h j j (by simp [hjn])
    rw [hj] at this
    exact this
  · cases h

section
variable {H : Type} {enc : TypeId × Value → H} {W : World} {n : Nat} {cs : List Value} {x : DataW H × List MemPlace}

theorem opens_rows {α : Type} {cells : α → List Value} {s : Nat} {ok : World → α → Prop} {t e : TypeId} (d : α) (hs : ∀ x, (cells x).length = s) (ht : Tryd.prog.underlying t = some (.slice e)) (hc : Tryd.prog.cellsOf e = s) (h0 : 0 < s)
    (he : ∀ {n : Nat} {cs : List Value} {x : DataW H × List MemPlace}, DataW.trod enc Tryd.prog W 0 (fun _ => true) true n e cs = some x → ∃ y : α, cs = cells y ∧ ok W y)
    (h : DataW.trod enc Tryd.prog W 0 (fun _ => true) true n t cs = some x) : ∃ (v : Value) (l : List α), cs = [v] ∧ RowOf cells s ok W v l := by
  rcases open_slice ht h with ⟨hcs, _⟩ | ⟨a, l, c, m, n, D, Pl, hcs, _, hl, hm, hmm, _, hel⟩
  · exact ⟨_, [], hcs, RowOf.nil _ _ _ _⟩
  · simp only [if_true] at hmm
    subst hmm
    have hspot : 0 < l → a.spot = none := by
      intro hp
      obtain ⟨cs', h1, h2⟩ := hel 0 (by omega)
      obtain ⟨hl1, hr⟩ := cells_range _ _ _ _ h1
      rw [hc] at hl1
      have hj : cs'[0]? = some (cs'[0]'(by omega)) := by simp
      have := World.cell?_spot (hr 0 _ hj)
      simpa [Addr.add] using this
    have hex : ∀ i, i < l → ∃ y : α, ∃ b off, (some a) = some ⟨b, off, none⟩ ∧ b < W.heap.size ∧ W.rangeAt b (off + i * s) (cells y) ∧ ok W y := by
      intro i hi
      obtain ⟨cs', h1, h2⟩ := hel i (by omega)
      obtain ⟨hl1, hr⟩ := cells_range _ _ _ _ h1
      obtain ⟨y, rfl, hy⟩ := he h2
      obtain ⟨b, off, sp⟩ := a
      have hsp : sp = none := hspot (by omega)
      subst hsp
      rw [hc] at hr hl1
      have hr' : W.rangeAt b (off + i * s) (cells y) := fun j u hu => by
        have := hr j u hu
        simpa only [add_plain] using this
      have hj : (cells y)[0]? = some ((cells y)[0]'(by omega)) := by simp
      exact ⟨y, b, off, rfl, World.block_lt_of_cell? W _ (hr' 0 _ hj), hr', hy⟩
    obtain ⟨f, hf⟩ := @choose_lt α ⟨d⟩ _ _ hex
    refine ⟨_, (List.range l).map f, hcs, some a, m, by simp, by simpa using hl, hm, ?_, (fun h => by cases h), ?_⟩
    · rintro p hp ⟨_, hl'⟩
      cases hp
      exact hspot (by simpa using hl')
    · intro i y hy
      have hi : i < l := by
        have := (List.getElem?_eq_some_iff.1 hy).1
        simpa using this
      have : f i = y := by simpa [hi] using hy
      subst this
      exact hf i hi

theorem cells3 : Tryd.prog.cellsOf 3 = 1 := by kernel_rfl
theorem cells4 : Tryd.prog.cellsOf 4 = 1 := by kernel_rfl
theorem cells76 : Tryd.prog.cellsOf 44 = 1 := by kernel_rfl
theorem cells78 : Tryd.prog.cellsOf 52 = 3 := by kernel_rfl
theorem cells42 : Tryd.prog.cellsOf 56 = 3 := by kernel_rfl
theorem cells45 : Tryd.prog.cellsOf 58 = 3 := by kernel_rfl
theorem cells48 : Tryd.prog.cellsOf 43 = 3 := by kernel_rfl
theorem cells39 : Tryd.prog.cellsOf 40 = 3 := by kernel_rfl
theorem cells33 : Tryd.prog.cellsOf 50 = 8 := by kernel_rfl
theorem cells31 : Tryd.prog.cellsOf 48 = 1 := by kernel_rfl
theorem cells37 : Tryd.prog.cellsOf 38 = 1 := by kernel_rfl
theorem cells23 : Tryd.prog.cellsOf 23 = 1 := by kernel_rfl
theorem cells22 : Tryd.prog.cellsOf 22 = 1 := by kernel_rfl
theorem cells24 : Tryd.prog.cellsOf 24 = 1 := by kernel_rfl
theorem cells25 : Tryd.prog.cellsOf 25 = 1 := by kernel_rfl
theorem cells26 : Tryd.prog.cellsOf 26 = 1 := by kernel_rfl
theorem cells28 : Tryd.prog.cellsOf 28 = 5 := by kernel_rfl

theorem opens_item (h : DataW.trod enc Tryd.prog W 0 (fun _ => true) true n 52 cs = some x) : ∃ y : Itm, cs = y.cells ∧ y.okW W := by
  have hl : cs.length = 3 := by obtain ⟨_, _, _, _, hl, _⟩ := DataW.trod_struct Tryd.underlying52 h; rw [cells78] at hl; exact hl
  match cs, hl with
  | [c0, c1, c2], _ =>
  obtain ⟨y0, y1, y2, n', _, _, t0, t1, t2⟩ := trod_struct3 Tryd.underlying52 h
  simp only [cells3, cells76] at t0 t1 t2
  obtain ⟨k, e0, _, w0⟩ := DataW.trod_int Tryd.underlying3 t0
  obtain ⟨u, e1, _, w1⟩ := DataW.trod_int Tryd.underlying3 t1
  obtain ⟨s, e2, _, w2⟩ := DataW.trod_int Tryd.underlying44 t2
  simp at e0 e1 e2
  subst e0 e1 e2
  have b0 := bounds_i64 w0
  have b1 := bounds_i64 w1
  have b2 := bounds_u64 w2
  exact ⟨⟨k, u, s⟩, rfl, ⟨b0.1, b0.2, b1.1, b1.2, b2.1, b2.2⟩⟩

theorem opens_loc (h : DataW.trod enc Tryd.prog W 0 (fun _ => true) true n 56 cs = some x) : ∃ y : Loc, cs = y.cells ∧ y.okW W := by
  have hl : cs.length = 3 := by obtain ⟨_, _, _, _, hl, _⟩ := DataW.trod_struct Tryd.underlying56 h; rw [cells42] at hl; exact hl
  match cs, hl with
  | [c0, c1, c2], _ =>
  obtain ⟨y0, y1, y2, n', _, _, t0, t1, t2⟩ := trod_struct3 Tryd.underlying56 h
  simp only [cells3, cells4] at t0 t1 t2
  obtain ⟨k, e0, _, w0⟩ := DataW.trod_int Tryd.underlying3 t0
  obtain ⟨u, e1, _, w1⟩ := DataW.trod_int Tryd.underlying3 t1
  obtain ⟨s, e2, _⟩ := DataW.trod_bool Tryd.underlying4 t2
  simp at e0 e1 e2
  subst e0 e1 e2
  exact ⟨⟨k, u, s⟩, rfl, i64_of w0, i64_of w1⟩

theorem opens_sec (h : DataW.trod enc Tryd.prog W 0 (fun _ => true) true n 58 cs = some x) : ∃ y : Sec, cs = y.cells ∧ y.okW W := by
  have hl : cs.length = 3 := by obtain ⟨_, _, _, _, hl, _⟩ := DataW.trod_struct Tryd.underlying58 h; rw [cells45] at hl; exact hl
  match cs, hl with
  | [c0, c1, c2], _ =>
  obtain ⟨y0, y1, y2, n', _, _, t0, t1, t2⟩ := trod_struct3 Tryd.underlying58 h
  simp only [cells3] at t0 t1 t2
  obtain ⟨k, e0, _, w0⟩ := DataW.trod_int Tryd.underlying3 t0
  obtain ⟨u, e1, _, w1⟩ := DataW.trod_int Tryd.underlying3 t1
  obtain ⟨s, e2, _, w2⟩ := DataW.trod_int Tryd.underlying3 t2
  simp at e0 e1 e2
  subst e0 e1 e2
  exact ⟨⟨k, u, s⟩, rfl, i64_of w0, i64_of w1, i64_of w2⟩

theorem opens_ste (h : DataW.trod enc Tryd.prog W 0 (fun _ => true) true n 43 cs = some x) : ∃ y : Ste, cs = y.cells ∧ y.okW W := by
  have hl : cs.length = 3 := by obtain ⟨_, _, _, _, hl, _⟩ := DataW.trod_struct Tryd.underlying43 h; rw [cells48] at hl; exact hl
  match cs, hl with
  | [c0, c1, c2], _ =>
  obtain ⟨y0, y1, y2, n', _, _, t0, t1, t2⟩ := trod_struct3 Tryd.underlying43 h
  simp only [cells3] at t0 t1 t2
  obtain ⟨k, e0, _, w0⟩ := DataW.trod_int Tryd.underlying3 t0
  obtain ⟨u, e1, _, w1⟩ := DataW.trod_int Tryd.underlying3 t1
  obtain ⟨s, e2, _, w2⟩ := DataW.trod_int Tryd.underlying3 t2
  simp at e0 e1 e2
  subst e0 e1 e2
  exact ⟨⟨k, u, s⟩, rfl, i64_of w0, i64_of w1, i64_of w2⟩

theorem opens_items (h : DataW.trod enc Tryd.prog W 0 (fun _ => true) true n 48 cs = some x) : ∃ (v : Value) (l : List Itm), cs = [v] ∧ Items W v l :=
  opens_rows Itm.blank (fun _ => rfl) Tryd.underlying48 cells78 (by omega) opens_item h
theorem opens_locs (h : DataW.trod enc Tryd.prog W 0 (fun _ => true) true n 23 cs = some x) : ∃ (v : Value) (l : List Loc), cs = [v] ∧ Locs W v l :=
  opens_rows ⟨0, 0, false⟩ (fun _ => rfl) Tryd.underlying23 cells42 (by omega) opens_loc h
theorem opens_secs (h : DataW.trod enc Tryd.prog W 0 (fun _ => true) true n 26 cs = some x) : ∃ (v : Value) (l : List Sec), cs = [v] ∧ Secs W v l :=
  opens_rows ⟨0, 0, 0⟩ (fun _ => rfl) Tryd.underlying26 cells45 (by omega) opens_sec h
theorem opens_stes (h : DataW.trod enc Tryd.prog W 0 (fun _ => true) true n 25 cs = some x) : ∃ (v : Value) (l : List Ste), cs = [v] ∧ Stes W v l :=
  opens_rows ⟨0, 0, 0⟩ (fun _ => rfl) Tryd.underlying25 cells48 (by omega) opens_ste h
theorem opens_rl (h : DataW.trod enc Tryd.prog W 0 (fun _ => true) true n 23 cs = some x) : ∃ y : Rl, cs = y.cells ∧ y.okW W := by
  obtain ⟨v, l, e, h⟩ := opens_locs h
  exact ⟨⟨l, v⟩, e, h⟩
theorem opens_rls (h : DataW.trod enc Tryd.prog W 0 (fun _ => true) true n 22 cs = some x) : ∃ (v : Value) (l : List Rl), cs = [v] ∧ Rls W v l :=
  opens_rows ⟨[], .bool false⟩ (fun _ => rfl) Tryd.underlying22 cells23 (by omega) opens_rl h

theorem opens_ins (h : DataW.trod enc Tryd.prog W 0 (fun _ => true) true n 50 cs = some x) : ∃ y : Ins, cs = y.cells ∧ y.okW W := by
  obtain ⟨xs, m, rfl, _, hl, hx, hf⟩ := DataW.trod_struct Tryd.underlying50 h
  rw [cells33] at hl
  match xs, hx with
  | [y0, y1, y2, y3, y4, y5, y6, y7], _ =>
  match cs, hl with
  | [c0, c1, c2, c3, c4, c5, c6, c7], _ =>
  have t0 := hf 0 _ rfl
  have t1 := hf 1 _ rfl
  have t2 := hf 2 _ rfl
  have t3 := hf 3 _ rfl
  have t4 := hf 4 _ rfl
  have t5 := hf 5 _ rfl
  have t6 := hf 6 _ rfl
  have t7 := hf 7 _ rfl
  simp [cells3, cells31] at t0 t1 t2 t3 t4 t5 t6 t7
  obtain ⟨k0, e0, _, w0⟩ := DataW.trod_int Tryd.underlying3 t0
  obtain ⟨k1, e1, _, w1⟩ := DataW.trod_int Tryd.underlying3 t1
  obtain ⟨k2, e2, _, w2⟩ := DataW.trod_int Tryd.underlying3 t2
  obtain ⟨k3, e3, _, w3⟩ := DataW.trod_int Tryd.underlying3 t3
  obtain ⟨k4, e4, _, w4⟩ := DataW.trod_int Tryd.underlying3 t4
  obtain ⟨k5, e5, _, w5⟩ := DataW.trod_int Tryd.underlying3 t5
  obtain ⟨v6, l6, e6, w6⟩ := opens_items t6
  obtain ⟨v7, l7, e7, w7⟩ := opens_items t7
  simp at e0 e1 e2 e3 e4 e5 e6 e7
  subst e0 e1 e2 e3 e4 e5 e6 e7
  exact ⟨⟨k0, k1, k2, k3, k4, k5, l6, c6, l7, c7⟩, rfl, ⟨i64_of w0, i64_of w1, i64_of w2, i64_of w3, i64_of w4, i64_of w5⟩, w6, w7⟩
theorem opens_inss (h : DataW.trod enc Tryd.prog W 0 (fun _ => true) true n 38 cs = some x) : ∃ (v : Value) (l : List Ins), cs = [v] ∧ Inss W v l :=
  opens_rows ⟨0, 0, 0, 0, 0, 0, [], .bool false, [], .bool false⟩ (fun _ => rfl) Tryd.underlying38 cells33 (by omega) opens_ins h

theorem opens_bd (h : DataW.trod enc Tryd.prog W 0 (fun _ => true) true n 40 cs = some x) : ∃ y : Bd, cs = y.cells ∧ y.okW W := by
  have hl : cs.length = 3 := by obtain ⟨_, _, _, _, hl, _⟩ := DataW.trod_struct Tryd.underlying40 h; rw [cells39] at hl; exact hl
  match cs, hl with
  | [c0, c1, c2], _ =>
  obtain ⟨y0, y1, y2, n', _, _, t0, t1, t2⟩ := trod_struct3 Tryd.underlying40 h
  simp [cells3, cells23, cells37] at t0 t1 t2
  obtain ⟨v0, l0, e0, w0⟩ := opens_locs t0
  obtain ⟨v1, l1, e1, w1⟩ := opens_inss t1
  obtain ⟨s, e2, _, w2⟩ := DataW.trod_int Tryd.underlying3 t2
  simp at e0 e1 e2
  subst e0 e1 e2
  exact ⟨⟨l0, c0, l1, c1, s⟩, rfl, i64_of w2, w0, w1⟩
theorem opens_bds (h : DataW.trod enc Tryd.prog W 0 (fun _ => true) true n 24 cs = some x) : ∃ (v : Value) (l : List Bd), cs = [v] ∧ Bds W v l :=
  opens_rows ⟨[], .bool false, [], .bool false, 0⟩ (fun _ => rfl) Tryd.underlying24 cells39 (by omega) opens_bd h

theorem opens_cd (h : DataW.trod enc Tryd.prog W 0 (fun _ => true) true n 28 cs = some x) : ∃ y : Cd, cs = y.cells ∧ y.okW W := by
  obtain ⟨xs, m, rfl, _, hl, hx, hf⟩ := DataW.trod_struct Tryd.underlying28 h
  rw [cells28] at hl
  match xs, hx with
  | [y0, y1, y2, y3, y4], _ =>
  match cs, hl with
  | [c0, c1, c2, c3, c4], _ =>
  have t0 := hf 0 _ rfl
  have t1 := hf 1 _ rfl
  have t2 := hf 2 _ rfl
  have t3 := hf 3 _ rfl
  have t4 := hf 4 _ rfl
  simp [cells22, cells23, cells24, cells25, cells26] at t0 t1 t2 t3 t4
  obtain ⟨v0, l0, e0, w0⟩ := opens_rls t0
  obtain ⟨v1, l1, e1, w1⟩ := opens_locs t1
  obtain ⟨v2, l2, e2, w2⟩ := opens_bds t2
  obtain ⟨v3, l3, e3, w3⟩ := opens_stes t3
  obtain ⟨v4, l4, e4, w4⟩ := opens_secs t4
  simp at e0 e1 e2 e3 e4
  subst e0 e1 e2 e3 e4
  exact ⟨⟨l0, c0, l1, c1, l2, c2, l3, c3, l4, c4⟩, rfl, w0, w1, w2, w3, w4⟩
end

def IsIns (w : World) (v : Value) (x : Ins) : Prop := v = .agg #[.int .i64 x.op, .int .i64 x.dst, .int .i64 x.src, .int .i64 x.rc, .int .i64 x.n, .int .i64 x.to, x.iv, x.xv] ∧ x.okW w

theorem open28 {H : Type} {enc : TypeId × Value → H} {W : World} {base : Nat} {v : Value} {d : DataW H} {p : List MemPlace} (hv : Value.okWide Tryd.prog W .any base 28 v) (h : DataW.Trod enc Tryd.prog W 0 (fun _ => true) true 28 v d p) : ∃ c, IsCd W v c := by
  obtain ⟨cs, rfl, _⟩ := okWide_struct Tryd.underlying28 hv
  obtain ⟨fuel, hf⟩ := h
  obtain ⟨c, hc, ok⟩ := opens_cd hf
  have : cs = #[c.rv, c.gv, c.tv, c.ev, c.cv] := by
    have e : cs.toList = c.cells := by simpa [Value.cells] using hc
    rw [← Array.toArray_toList (xs := cs), e]; rfl
  exact ⟨c, by rw [this], ok⟩
end Go.Proofs.YtkdpcaoocmbbhaaDoor
