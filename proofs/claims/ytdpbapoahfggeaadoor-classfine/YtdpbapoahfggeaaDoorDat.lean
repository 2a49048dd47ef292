/- Codes as plain data: their cells, how they lie in memory, and that an argument is one. -/
import Derived.Test.YtdpbapoahfggeaaDoorCal
namespace Go.Proofs.YtdpbapoahfggeaaDoor
open Go.ChangeShapes Go.WideShapes Go.ChangeAt Go.RowKit Go.Deep
set_option maxRecDepth 100000
set_option linter.unusedVariables false

theorem hid {p : Prop} (h : p) : Hid p := h
theorem retB {a b : Bool} (h : a = b) : Ending.returned (.bool a) = .returned (.bool b) := by rw [h]
theorem bover {w w1 w' : World} (h : Below w.heap.size w w1) (k : Below w1.heap.size w1 w') : Below w.heap.size w w' := h.trans (k.mono h.size)

theorem new_block (w : World) (o : Obj) : (w.alloc o).heap[w.heap.size]? = some o := by
  show (w.heap.push o)[w.heap.size]? = some o
  simp
theorem new_cell (w : World) (cs : Array Value) (t : TypeId) (i : Nat) (v : Value) (h : cs[i]? = some v) : (w.alloc (.cells cs t)).cell? ⟨w.heap.size, i, none⟩ = some v := by
  simp only [World.cell?, new_block]
  exact h

/-- Whole numbers of 64 bits. -/
def I64 (n : Int) : Prop := -9223372036854775808 ≤ n ∧ n ≤ 9223372036854775807

structure Loc where
  kind : Int
  rc : Int
  once : Bool
structure Ins where
  op : Int
  dst : Int
  src : Int
  rc : Int
  n : Int
  to : Int
  items : List Itm
  iv : Value
  index : List Itm
  xv : Value
structure Bd where
  slots : List Loc
  sv : Value
  code : List Ins
  cv : Value
  most : Int
structure Ste where
  th : Int
  pl : Int
  rc : Int
structure Sec where
  th : Int
  fr : Int
  to : Int
structure Rl where
  flds : List Loc
  fv : Value
structure Cd where
  recs : List Rl
  rv : Value
  globs : List Loc
  gv : Value
  threads : List Bd
  tv : Value
  sites : List Ste
  ev : Value
  secs : List Sec
  cv : Value

def Itm.cells (x : Itm) : List Value := [.int .i64 x.op, .int .i64 x.bin, .int .u64 x.n]
def Loc.cells (x : Loc) : List Value := [.int .i64 x.kind, .int .i64 x.rc, .bool x.once]
def Ins.cells (x : Ins) : List Value := [.int .i64 x.op, .int .i64 x.dst, .int .i64 x.src, .int .i64 x.rc, .int .i64 x.n, .int .i64 x.to, x.iv, x.xv]
def Bd.cells (x : Bd) : List Value := [x.sv, x.cv, .int .i64 x.most]
def Ste.cells (x : Ste) : List Value := [.int .i64 x.th, .int .i64 x.pl, .int .i64 x.rc]
def Sec.cells (x : Sec) : List Value := [.int .i64 x.th, .int .i64 x.fr, .int .i64 x.to]
def Rl.cells (x : Rl) : List Value := [x.fv]
def Cd.cells (x : Cd) : List Value := [x.rv, x.gv, x.tv, x.ev, x.cv]

/-- A slice at which things of s cells lie, one behind the other. -/
def RowOf {α : Type} (cells : α → List Value) (s : Nat) (ok : World → α → Prop) (w : World) (v : Value) (l : List α) : Prop :=
  ∃ (a : Option Addr) (cap : Nat), v = .slice a l.length cap ∧ l.length ≤ cap ∧ cap ≤ maxLen ∧ (∀ p, a = some p → p.block < w.heap.size ∧ 0 < l.length → p.spot = none) ∧ (a = none → l = [] ∧ cap = 0) ∧
    ∀ (i : Nat) (x : α), l[i]? = some x → ∃ b off, a = some ⟨b, off, none⟩ ∧ b < w.heap.size ∧ w.rangeAt b (off + i * s) (cells x) ∧ ok w x

theorem RowOf.kept {α : Type} {cells : α → List Value} {s : Nat} {ok : World → α → Prop} {w w' : World} {v : Value} {l : List α} (h : RowOf cells s ok w v l) (hb : Below w.heap.size w w') (hk : ∀ x, ok w x → ok w' x) : RowOf cells s ok w' v l := by
  obtain ⟨a, cap, h1, h2, h3, h4, h5, h6⟩ := h
  refine ⟨a, cap, h1, h2, h3, ?_, h5, ?_⟩
  · rintro p rfl ⟨_, hl⟩
    have h0 : l[0]? = some (l[0]'hl) := by simp
    obtain ⟨b, off, e, _⟩ := h6 0 _ h0
    cases e; rfl
  · intro i x hx
    obtain ⟨b, off, e, hlt, hr, ho⟩ := h6 i x hx
    exact ⟨b, off, e, Nat.lt_of_lt_of_le hlt hb.size, fun j u hu => by rw [hb.cell hlt]; exact hr j u hu, hk x ho⟩

theorem RowOf.form {α : Type} {cells : α → List Value} {s : Nat} {ok : World → α → Prop} {w : World} {v : Value} {l : List α} (h : RowOf cells s ok w v l) : ∃ a cap, v = .slice a l.length cap := by
  obtain ⟨a, cap, h1, _⟩ := h
  exact ⟨a, cap, h1⟩

theorem RowOf.nil {α : Type} (cells : α → List Value) (s : Nat) (ok : World → α → Prop) (w : World) : RowOf cells s ok w (.slice none 0 0) [] :=
  ⟨none, 0, rfl, by simp, by simp, (fun p h => by cases h), (fun _ => ⟨rfl, rfl⟩), fun i x h => by simp at h⟩

def Itm.okW (w : World) (x : Itm) : Prop := x.ok
def Loc.okW (w : World) (x : Loc) : Prop := I64 x.kind ∧ I64 x.rc
def Ste.okW (w : World) (x : Ste) : Prop := I64 x.th ∧ I64 x.pl ∧ I64 x.rc
def Sec.okW (w : World) (x : Sec) : Prop := I64 x.th ∧ I64 x.fr ∧ I64 x.to
abbrev Items (w : World) (v : Value) (l : List Itm) : Prop := RowOf Itm.cells 3 Itm.okW w v l
abbrev Locs (w : World) (v : Value) (l : List Loc) : Prop := RowOf Loc.cells 3 Loc.okW w v l
abbrev Stes (w : World) (v : Value) (l : List Ste) : Prop := RowOf Ste.cells 3 Ste.okW w v l
abbrev Secs (w : World) (v : Value) (l : List Sec) : Prop := RowOf Sec.cells 3 Sec.okW w v l
def Ins.nums (x : Ins) : Prop := I64 x.op ∧ I64 x.dst ∧ I64 x.src ∧ I64 x.rc ∧ I64 x.n ∧ I64 x.to
def Ins.okW (w : World) (x : Ins) : Prop := x.nums ∧ Items w x.iv x.items ∧ Items w x.xv x.index
abbrev Inss (w : World) (v : Value) (l : List Ins) : Prop := RowOf Ins.cells 8 Ins.okW w v l
def Bd.okW (w : World) (x : Bd) : Prop := I64 x.most ∧ Locs w x.sv x.slots ∧ Inss w x.cv x.code
abbrev Bds (w : World) (v : Value) (l : List Bd) : Prop := RowOf Bd.cells 3 Bd.okW w v l
def Rl.okW (w : World) (x : Rl) : Prop := Locs w x.fv x.flds
abbrev Rls (w : World) (v : Value) (l : List Rl) : Prop := RowOf Rl.cells 1 Rl.okW w v l
def Cd.okW (w : World) (c : Cd) : Prop := Rls w c.rv c.recs ∧ Locs w c.gv c.globs ∧ Bds w c.tv c.threads ∧ Stes w c.ev c.sites ∧ Secs w c.cv c.secs

section
variable {w w' : World} (hb : Below w.heap.size w w')
theorem Items.kept {v l} (h : Items w v l) (hb : Below w.heap.size w w') : Items w' v l := RowOf.kept h hb (fun _ h => h)
theorem Locs.kept {v l} (h : Locs w v l) (hb : Below w.heap.size w w') : Locs w' v l := RowOf.kept h hb (fun _ h => h)
theorem Stes.kept {v l} (h : Stes w v l) (hb : Below w.heap.size w w') : Stes w' v l := RowOf.kept h hb (fun _ h => h)
theorem Secs.kept {v l} (h : Secs w v l) (hb : Below w.heap.size w w') : Secs w' v l := RowOf.kept h hb (fun _ h => h)
theorem Ins.kept {x : Ins} (h : x.okW w) (hb : Below w.heap.size w w') : x.okW w' := ⟨h.1, Items.kept h.2.1 hb, Items.kept h.2.2 hb⟩
theorem Inss.kept {v l} (h : Inss w v l) (hb : Below w.heap.size w w') : Inss w' v l := RowOf.kept h hb (fun _ h => Ins.kept h hb)
theorem Bd.kept {x : Bd} (h : x.okW w) (hb : Below w.heap.size w w') : x.okW w' := ⟨h.1, Locs.kept h.2.1 hb, Inss.kept h.2.2 hb⟩
theorem Bds.kept {v l} (h : Bds w v l) (hb : Below w.heap.size w w') : Bds w' v l := RowOf.kept h hb (fun _ h => Bd.kept h hb)
theorem Rl.kept {x : Rl} (h : x.okW w) (hb : Below w.heap.size w w') : x.okW w' := Locs.kept h hb
theorem Rls.kept {v l} (h : Rls w v l) (hb : Below w.heap.size w w') : Rls w' v l := RowOf.kept h hb (fun _ h => Rl.kept h hb)
theorem Cd.kept {c : Cd} (h : c.okW w) (hb : Below w.heap.size w w') : c.okW w' := ⟨Rls.kept h.1 hb, Locs.kept h.2.1 hb, Bds.kept h.2.2.1 hb, Stes.kept h.2.2.2.1 hb, Secs.kept h.2.2.2.2 hb⟩
end

/-! ### An argument is one -/

theorem i64_of {n : Int} (h : (Lit.int .i64 n).wf = true) : I64 n := bounds_i64 h

theorem cells_range (w : World) (a : Addr) (n : Nat) (cs : List Value) (h : w.cells? 0 a n = some cs) : cs.length = n ∧ ∀ j u, cs[j]? = some u → w.cell? (a.add j) = some u := by
  unfold World.cells? at h
  split at h
  · have hl := mapM_some_length h
    refine ⟨by simpa using hl, fun j u hj => ?_⟩
    have hjn : j < n := by have := (List.getElem?_eq_some_iff.1 hj).1; simp at hl; omega
    have := mapM_some_get h j j (by simp [hjn])
    rw [hj] at this
    exact this
  · cases h

section
variable {H : Type} {enc : TypeId × Value → H} {W : World} {n : Nat} {cs : List Value} {x : DataW H × List MemPlace}

theorem opens_rows {α : Type} {cells : α → List Value} {s : Nat} {ok : World → α → Prop} {t e : TypeId} (d : α) (hs : ∀ x, (cells x).length = s) (ht : Tryd.prog.underlying t = some (.slice e)) (hc : Tryd.prog.cellsOf e = s) (h0 : 0 < s)
    (he : ∀ {n : Nat} {cs : List Value} {x : DataW H × List MemPlace}, DataW.trod enc Tryd.prog W 0 (fun _ => true) true n e cs = some x → ∃ y : α, cs = cells y ∧ ok W y)
    (h : DataW.trod enc Tryd.prog W 0 (fun _ => true) true n t cs = some x) : ∃ (v : Value) (l : List α), cs = [v] ∧ RowOf cells s ok W v l := by
  rcases open_slice ht h with ⟨hcs, _⟩ | ⟨a, l, c, m, n, D, Pl, hcs, _, hl, hm, hmm, _, hel⟩
  · exact ⟨_, [], hcs, RowOf.nil _ _ _ _⟩
  · simp only [if_true] at hmm
    subst hmm
    have hspot : 0 < l → a.spot = none := by
      intro hp
      obtain ⟨cs', h1, h2⟩ := hel 0 (by omega)
      obtain ⟨hl1, hr⟩ := cells_range _ _ _ _ h1
      rw [hc] at hl1
      have hj : cs'[0]? = some (cs'[0]'(by omega)) := by simp
      have := World.cell?_spot (hr 0 _ hj)
      simpa [Addr.add] using this
    have hex : ∀ i, i < l → ∃ y : α, ∃ b off, (some a) = some ⟨b, off, none⟩ ∧ b < W.heap.size ∧ W.rangeAt b (off + i * s) (cells y) ∧ ok W y := by
      intro i hi
      obtain ⟨cs', h1, h2⟩ := hel i (by omega)
      obtain ⟨hl1, hr⟩ := cells_range _ _ _ _ h1
      obtain ⟨y, rfl, hy⟩ := he h2
      obtain ⟨b, off, sp⟩ := a
      have hsp : sp = none := hspot (by omega)
      subst hsp
      rw [hc] at hr hl1
      have hr' : W.rangeAt b (off + i * s) (cells y) := fun j u hu => by
        have := hr j u hu
        simpa only [add_plain] using this
      have hj : (cells y)[0]? = some ((cells y)[0]'(by omega)) := by simp
      exact ⟨y, b, off, rfl, World.block_lt_of_cell? W _ (hr' 0 _ hj), hr', hy⟩
    obtain ⟨f, hf⟩ := @choose_lt α ⟨d⟩ _ _ hex
    refine ⟨_, (List.range l).map f, hcs, some a, m, by simp, by simpa using hl, hm, ?_, (fun h => by cases h), ?_⟩
    · rintro p hp ⟨_, hl'⟩
      cases hp
      exact hspot (by simpa using hl')
    · intro i y hy
      have hi : i < l := by
        have := (List.getElem?_eq_some_iff.1 hy).1
        simpa using this
      have : f i = y := by simpa [hi] using hy
      subst this
      exact hf i hi

theorem cells3 : Tryd.prog.cellsOf 3 = 1 := by kernel_rfl
theorem cells4 : Tryd.prog.cellsOf 4 = 1 := by kernel_rfl
theorem cells76 : Tryd.prog.cellsOf 23 = 1 := by kernel_rfl
theorem cells78 : Tryd.prog.cellsOf 94 = 3 := by kernel_rfl
theorem cells42 : Tryd.prog.cellsOf 60 = 3 := by kernel_rfl
theorem cells45 : Tryd.prog.cellsOf 63 = 3 := by kernel_rfl
theorem cells48 : Tryd.prog.cellsOf 66 = 3 := by kernel_rfl
theorem cells39 : Tryd.prog.cellsOf 55 = 3 := by kernel_rfl
theorem cells33 : Tryd.prog.cellsOf 58 = 8 := by kernel_rfl
theorem cells31 : Tryd.prog.cellsOf 56 = 1 := by kernel_rfl
theorem cells37 : Tryd.prog.cellsOf 53 = 1 := by kernel_rfl
theorem cells23 : Tryd.prog.cellsOf 36 = 1 := by kernel_rfl
theorem cells22 : Tryd.prog.cellsOf 35 = 1 := by kernel_rfl
theorem cells24 : Tryd.prog.cellsOf 37 = 1 := by kernel_rfl
theorem cells25 : Tryd.prog.cellsOf 38 = 1 := by kernel_rfl
theorem cells26 : Tryd.prog.cellsOf 39 = 1 := by kernel_rfl
theorem cells28 : Tryd.prog.cellsOf 41 = 5 := by kernel_rfl

theorem opens_item (h : DataW.trod enc Tryd.prog W 0 (fun _ => true) true n 94 cs = some x) : ∃ y : Itm, cs = y.cells ∧ y.okW W := by
  have hl : cs.length = 3 := by obtain ⟨_, _, _, _, hl, _⟩ := DataW.trod_struct Tryd.underlying94 h; rw [cells78] at hl; exact hl
  match cs, hl with
  | [c0, c1, c2], _ =>
  obtain ⟨y0, y1, y2, n', _, _, t0, t1, t2⟩ := trod_struct3 Tryd.underlying94 h
  simp only [cells3, cells76] at t0 t1 t2
  obtain ⟨k, e0, _, w0⟩ := DataW.trod_int Tryd.underlying3 t0
  obtain ⟨u, e1, _, w1⟩ := DataW.trod_int Tryd.underlying3 t1
  obtain ⟨s, e2, _, w2⟩ := DataW.trod_int Tryd.underlying23 t2
  simp at e0 e1 e2
  subst e0 e1 e2
  have b0 := bounds_i64 w0
  have b1 := bounds_i64 w1
  have b2 := bounds_u64 w2
  exact ⟨⟨k, u, s⟩, rfl, ⟨b0.1, b0.2, b1.1, b1.2, b2.1, b2.2⟩⟩

theorem opens_loc (h : DataW.trod enc Tryd.prog W 0 (fun _ => true) true n 60 cs = some x) : ∃ y : Loc, cs = y.cells ∧ y.okW W := by
  have hl : cs.length = 3 := by obtain ⟨_, _, _, _, hl, _⟩ := DataW.trod_struct Tryd.underlying60 h; rw [cells42] at hl; exact hl
  match cs, hl with
  | [c0, c1, c2], _ =>
  obtain ⟨y0, y1, y2, n', _, _, t0, t1, t2⟩ := trod_struct3 Tryd.underlying60 h
  simp only [cells3, cells4] at t0 t1 t2
  obtain ⟨k, e0, _, w0⟩ := DataW.trod_int Tryd.underlying3 t0
  obtain ⟨u, e1, _, w1⟩ := DataW.trod_int Tryd.underlying3 t1
  obtain ⟨s, e2, _⟩ := DataW.trod_bool Tryd.underlying4 t2
  simp at e0 e1 e2
  subst e0 e1 e2
  exact ⟨⟨k, u, s⟩, rfl, i64_of w0, i64_of w1⟩

theorem opens_sec (h : DataW.trod enc Tryd.prog W 0 (fun _ => true) true n 63 cs = some x) : ∃ y : Sec, cs = y.cells ∧ y.okW W := by
  have hl : cs.length = 3 := by obtain ⟨_, _, _, _, hl, _⟩ := DataW.trod_struct Tryd.underlying63 h; rw [cells45] at hl; exact hl
  match cs, hl with
  | [c0, c1, c2], _ =>
  obtain ⟨y0, y1, y2, n', _, _, t0, t1, t2⟩ := trod_struct3 Tryd.underlying63 h
  simp only [cells3] at t0 t1 t2
  obtain ⟨k, e0, _, w0⟩ := DataW.trod_int Tryd.underlying3 t0
  obtain ⟨u, e1, _, w1⟩ := DataW.trod_int Tryd.underlying3 t1
  obtain ⟨s, e2, _, w2⟩ := DataW.trod_int Tryd.underlying3 t2
  simp at e0 e1 e2
  subst e0 e1 e2
  exact ⟨⟨k, u, s⟩, rfl, i64_of w0, i64_of w1, i64_of w2⟩

theorem opens_ste (h : DataW.trod enc Tryd.prog W 0 (fun _ => true) true n 66 cs = some x) : ∃ y : Ste, cs = y.cells ∧ y.okW W := by
  have hl : cs.length = 3 := by obtain ⟨_, _, _, _, hl, _⟩ := DataW.trod_struct Tryd.underlying66 h; rw [cells48] at hl; exact hl
  match cs, hl with
  | [c0, c1, c2], _ =>
  obtain ⟨y0, y1, y2, n', _, _, t0, t1, t2⟩ := trod_struct3 Tryd.underlying66 h
  simp only [cells3] at t0 t1 t2
  obtain ⟨k, e0, _, w0⟩ := DataW.trod_int Tryd.underlying3 t0
  obtain ⟨u, e1, _, w1⟩ := DataW.trod_int Tryd.underlying3 t1
  obtain ⟨s, e2, _, w2⟩ := DataW.trod_int Tryd.underlying3 t2
  simp at e0 e1 e2
  subst e0 e1 e2
  exact ⟨⟨k, u, s⟩, rfl, i64_of w0, i64_of w1, i64_of w2⟩

theorem opens_items (h : DataW.trod enc Tryd.prog W 0 (fun _ => true) true n 56 cs = some x) : ∃ (v : Value) (l : List Itm), cs = [v] ∧ Items W v l :=
  opens_rows Itm.blank (fun _ => rfl) Tryd.underlying56 cells78 (by omega) opens_item h
theorem opens_locs (h : DataW.trod enc Tryd.prog W 0 (fun _ => true) true n 36 cs = some x) : ∃ (v : Value) (l : List Loc), cs = [v] ∧ Locs W v l :=
  opens_rows ⟨0, 0, false⟩ (fun _ => rfl) Tryd.underlying36 cells42 (by omega) opens_loc h
theorem opens_secs (h : DataW.trod enc Tryd.prog W 0 (fun _ => true) true n 39 cs = some x) : ∃ (v : Value) (l : List Sec), cs = [v] ∧ Secs W v l :=
  opens_rows ⟨0, 0, 0⟩ (fun _ => rfl) Tryd.underlying39 cells45 (by omega) opens_sec h
theorem opens_stes (h : DataW.trod enc Tryd.prog W 0 (fun _ => true) true n 38 cs = some x) : ∃ (v : Value) (l : List Ste), cs = [v] ∧ Stes W v l :=
  opens_rows ⟨0, 0, 0⟩ (fun _ => rfl) Tryd.underlying38 cells48 (by omega) opens_ste h
theorem opens_rl (h : DataW.trod enc Tryd.prog W 0 (fun _ => true) true n 36 cs = some x) : ∃ y : Rl, cs = y.cells ∧ y.okW W := by
  obtain ⟨v, l, e, h⟩ := opens_locs h
  exact ⟨⟨l, v⟩, e, h⟩
theorem opens_rls (h : DataW.trod enc Tryd.prog W 0 (fun _ => true) true n 35 cs = some x) : ∃ (v : Value) (l : List Rl), cs = [v] ∧ Rls W v l :=
  opens_rows ⟨[], .bool false⟩ (fun _ => rfl) Tryd.underlying35 cells23 (by omega) opens_rl h

theorem opens_ins (h : DataW.trod enc Tryd.prog W 0 (fun _ => true) true n 58 cs = some x) : ∃ y : Ins, cs = y.cells ∧ y.okW W := by
  obtain ⟨xs, m, rfl, _, hl, hx, hf⟩ := DataW.trod_struct Tryd.underlying58 h
  rw [cells33] at hl
  match xs, hx with
  | [y0, y1, y2, y3, y4, y5, y6, y7], _ =>
  match cs, hl with
  | [c0, c1, c2, c3, c4, c5, c6, c7], _ =>
  have t0 := hf 0 _ rfl
  have t1 := hf 1 _ rfl
  have t2 := hf 2 _ rfl
  have t3 := hf 3 _ rfl
  have t4 := hf 4 _ rfl
  have t5 := hf 5 _ rfl
  have t6 := hf 6 _ rfl
  have t7 := hf 7 _ rfl
  simp [cells3, cells31] at t0 t1 t2 t3 t4 t5 t6 t7
  obtain ⟨k0, e0, _, w0⟩ := DataW.trod_int Tryd.underlying3 t0
  obtain ⟨k1, e1, _, w1⟩ := DataW.trod_int Tryd.underlying3 t1
  obtain ⟨k2, e2, _, w2⟩ := DataW.trod_int Tryd.underlying3 t2
  obtain ⟨k3, e3, _, w3⟩ := DataW.trod_int Tryd.underlying3 t3
  obtain ⟨k4, e4, _, w4⟩ := DataW.trod_int Tryd.underlying3 t4
  obtain ⟨k5, e5, _, w5⟩ := DataW.trod_int Tryd.underlying3 t5
  obtain ⟨v6, l6, e6, w6⟩ := opens_items t6
  obtain ⟨v7, l7, e7, w7⟩ := opens_items t7
  simp at e0 e1 e2 e3 e4 e5 e6 e7
  subst e0 e1 e2 e3 e4 e5 e6 e7
  exact ⟨⟨k0, k1, k2, k3, k4, k5, l6, c6, l7, c7⟩, rfl, ⟨i64_of w0, i64_of w1, i64_of w2, i64_of w3, i64_of w4, i64_of w5⟩, w6, w7⟩
theorem opens_inss (h : DataW.trod enc Tryd.prog W 0 (fun _ => true) true n 53 cs = some x) : ∃ (v : Value) (l : List Ins), cs = [v] ∧ Inss W v l :=
  opens_rows ⟨0, 0, 0, 0, 0, 0, [], .bool false, [], .bool false⟩ (fun _ => rfl) Tryd.underlying53 cells33 (by omega) opens_ins h

theorem opens_bd (h : DataW.trod enc Tryd.prog W 0 (fun _ => true) true n 55 cs = some x) : ∃ y : Bd, cs = y.cells ∧ y.okW W := by
  have hl : cs.length = 3 := by obtain ⟨_, _, _, _, hl, _⟩ := DataW.trod_struct Tryd.underlying55 h; rw [cells39] at hl; exact hl
  match cs, hl with
  | [c0, c1, c2], _ =>
  obtain ⟨y0, y1, y2, n', _, _, t0, t1, t2⟩ := trod_struct3 Tryd.underlying55 h
  simp [cells3, cells23, cells37] at t0 t1 t2
  obtain ⟨v0, l0, e0, w0⟩ := opens_locs t0
  obtain ⟨v1, l1, e1, w1⟩ := opens_inss t1
  obtain ⟨s, e2, _, w2⟩ := DataW.trod_int Tryd.underlying3 t2
  simp at e0 e1 e2
  subst e0 e1 e2
  exact ⟨⟨l0, c0, l1, c1, s⟩, rfl, i64_of w2, w0, w1⟩
theorem opens_bds (h : DataW.trod enc Tryd.prog W 0 (fun _ => true) true n 37 cs = some x) : ∃ (v : Value) (l : List Bd), cs = [v] ∧ Bds W v l :=
  opens_rows ⟨[], .bool false, [], .bool false, 0⟩ (fun _ => rfl) Tryd.underlying37 cells39 (by omega) opens_bd h

theorem opens_cd (h : DataW.trod enc Tryd.prog W 0 (fun _ => true) true n 41 cs = some x) : ∃ y : Cd, cs = y.cells ∧ y.okW W := by
  obtain ⟨xs, m, rfl, _, hl, hx, hf⟩ := DataW.trod_struct Tryd.underlying41 h
  rw [cells28] at hl
  match xs, hx with
  | [y0, y1, y2, y3, y4], _ =>
  match cs, hl with
  | [c0, c1, c2, c3, c4], _ =>
  have t0 := hf 0 _ rfl
  have t1 := hf 1 _ rfl
  have t2 := hf 2 _ rfl
  have t3 := hf 3 _ rfl
  have t4 := hf 4 _ rfl
  simp [cells22, cells23, cells24, cells25, cells26] at t0 t1 t2 t3 t4
  obtain ⟨v0, l0, e0, w0⟩ := opens_rls t0
  obtain ⟨v1, l1, e1, w1⟩ := opens_locs t1
  obtain ⟨v2, l2, e2, w2⟩ := opens_bds t2
  obtain ⟨v3, l3, e3, w3⟩ := opens_stes t3
  obtain ⟨v4, l4, e4, w4⟩ := opens_secs t4
  simp at e0 e1 e2 e3 e4
  subst e0 e1 e2 e3 e4
  exact ⟨⟨l0, c0, l1, c1, l2, c2, l3, c3, l4, c4⟩, rfl, w0, w1, w2, w3, w4⟩
end

/-- As an argument. -/
def IsCd (w : World) (v : Value) (c : Cd) : Prop := v = .agg #[c.rv, c.gv, c.tv, c.ev, c.cv] ∧ c.okW w
def IsIns (w : World) (v : Value) (x : Ins) : Prop := v = .agg #[.int .i64 x.op, .int .i64 x.dst, .int .i64 x.src, .int .i64 x.rc, .int .i64 x.n, .int .i64 x.to, x.iv, x.xv] ∧ x.okW w

theorem open28 {H : Type} {enc : TypeId × Value → H} {W : World} {base : Nat} {v : Value} {d : DataW H} {p : List MemPlace} (hv : Value.okWide Tryd.prog W .any base 41 v) (h : DataW.Trod enc Tryd.prog W 0 (fun _ => true) true 41 v d p) : ∃ c, IsCd W v c := by
  obtain ⟨cs, rfl, _⟩ := okWide_struct Tryd.underlying41 hv
  obtain ⟨fuel, hf⟩ := h
  obtain ⟨c, hc, ok⟩ := opens_cd hf
  have : cs = #[c.rv, c.gv, c.tv, c.ev, c.cv] := by
    have e : cs.toList = c.cells := by simpa [Value.cells] using hc
    rw [← Array.toArray_toList (xs := cs), e]; rfl
  exact ⟨c, by rw [this], ok⟩
theorem open33 {H : Type} {enc : TypeId × Value → H} {W : World} {base : Nat} {v : Value} {d : DataW H} {p : List MemPlace} (hv : Value.okWide Tryd.prog W .any base 58 v) (h : DataW.Trod enc Tryd.prog W 0 (fun _ => true) true 58 v d p) : ∃ c, IsIns W v c := by
  obtain ⟨cs, rfl, _⟩ := okWide_struct Tryd.underlying58 hv
  obtain ⟨fuel, hf⟩ := h
  obtain ⟨c, hc, ok⟩ := opens_ins hf
  have : cs = c.cells.toArray := by
    have e : cs.toList = c.cells := by simpa [Value.cells] using hc
    rw [← Array.toArray_toList (xs := cs), e]
  exact ⟨c, by rw [this]; rfl, ok⟩
end Go.Proofs.YtdpbapoahfggeaaDoor
