/- Dat, Cans, Cl, Rwi, Goods -/
import Derived.Test.YtdpbapoahfggeaaDoorM00
import Derived.Below
import Derived.WalkSpells
import Derived.WalkKit
import Derived.ProofKit
/- Codes as plain data: their cells, how they lie in memory, and that an argument is one. -/
namespace Go.Proofs.YtdpbapoahfggeaaDoor
open Go.ChangeShapes Go.WideShapes Go.ChangeAt Go.RowKit Go.Deep
set_option maxRecDepth 100000
set_option linter.unusedVariables false

theorem hid {p : Prop} (h : p) : Hid p := h
theorem retB {a b : Bool} (h : a = b) : Ending.returned (.bool a) = .returned (.bool b) := by rw [h]
theorem bover {w w1 w' : World} (h : Below w.heap.size w w1) (k : Below w1.heap.size w1 w') : Below w.heap.size w w' := h.trans (k.mono h.size)

theorem new_block (w : World) (o : Obj) : (w.alloc o).heap[w.heap.size]? = some o := by
  show (w.heap.push o)[w.heap.size]? = some o
  simp
theorem new_cell (w : World) (cs : Array Value) (t : TypeId) (i : Nat) (v : Value) (h : cs[i]? = some v) : (w.alloc (.cells cs t)).cell? ⟨w.heap.size, i, none⟩ = some v := by
  simp only [World.cell?, new_block]
  exact h

/-- Whole numbers of 64 bits. -/
def I64 (n : Int) : Prop := -9223372036854775808 ≤ n ∧ n ≤ 9223372036854775807

structure Loc where
  kind : Int
  rc : Int
  once : Bool
structure Ins where
  op : Int
  dst : Int
  src : Int
  rc : Int
  n : Int
  to : Int
  items : List Itm
  iv : Value
  index : List Itm
  xv : Value
structure Bd where
  slots : List Loc
  sv : Value
  code : List Ins
  cv : Value
  most : Int
structure Ste where
  th : Int
  pl : Int
  rc : Int
structure Sec where
  th : Int
  fr : Int
  to : Int
structure Rl where
  flds : List Loc
  fv : Value
structure Cd where
  recs : List Rl
  rv : Value
  globs : List Loc
  gv : Value
  threads : List Bd
  tv : Value
  sites : List Ste
  ev : Value
  secs : List Sec
  cv : Value

def Itm.cells (x : Itm) : List Value := [.int .i64 x.op, .int .i64 x.bin, .int .u64 x.n]
def Loc.cells (x : Loc) : List Value := [.int .i64 x.kind, .int .i64 x.rc, .bool x.once]
def Ins.cells (x : Ins) : List Value := [.int .i64 x.op, .int .i64 x.dst, .int .i64 x.src, .int .i64 x.rc, .int .i64 x.n, .int .i64 x.to, x.iv, x.xv]
def Bd.cells (x : Bd) : List Value := [x.sv, x.cv, .int .i64 x.most]
def Ste.cells (x : Ste) : List Value := [.int .i64 x.th, .int .i64 x.pl, .int .i64 x.rc]
def Sec.cells (x : Sec) : List Value := [.int .i64 x.th, .int .i64 x.fr, .int .i64 x.to]
def Rl.cells (x : Rl) : List Value := [x.fv]
def Cd.cells (x : Cd) : List Value := [x.rv, x.gv, x.tv, x.ev, x.cv]

/-- A slice at which things of s cells lie, one behind the other. -/
def RowOf {α : Type} (cells : α → List Value) (s : Nat) (ok : World → α → Prop) (w : World) (v : Value) (l : List α) : Prop :=
  ∃ (a : Option Addr) (cap : Nat), v = .slice a l.length cap ∧ l.length ≤ cap ∧ cap ≤ maxLen ∧ (∀ p, a = some p → p.block < w.heap.size ∧ 0 < l.length → p.spot = none) ∧ (a = none → l = [] ∧ cap = 0) ∧
    ∀ (i : Nat) (x : α), l[i]? = some x → ∃ b off, a = some ⟨b, off, none⟩ ∧ b < w.heap.size ∧ w.rangeAt b (off + i * s) (cells x) ∧ ok w x

theorem RowOf.kept {α : Type} {cells : α → List Value} {s : Nat} {ok : World → α → Prop} {w w' : World} {v : Value} {l : List α} (h : RowOf cells s ok w v l) (hb : Below w.heap.size w w') (hk : ∀ x, ok w x → ok w' x) : RowOf cells s ok w' v l := by
  obtain ⟨a, cap, h1, h2, h3, h4, h5, h6⟩ := h
  refine ⟨a, cap, h1, h2, h3, ?_, h5, ?_⟩
  · rintro p rfl ⟨_, hl⟩
    have h0 : l[0]? = some (l[0]'hl) := by simp
    obtain ⟨b, off, e, _⟩ := h6 0 _ h0
    cases e; rfl
  · intro i x hx
    obtain ⟨b, off, e, hlt, hr, ho⟩ := h6 i x hx
    exact ⟨b, off, e, Nat.lt_of_lt_of_le hlt hb.size, fun j u hu => by rw [hb.cell hlt]; exact hr j u hu, hk x ho⟩

theorem RowOf.form {α : Type} {cells : α → List Value} {s : Nat} {ok : World → α → Prop} {w : World} {v : Value} {l : List α} (h : RowOf cells s ok w v l) : ∃ a cap, v = .slice a l.length cap := by
  obtain ⟨a, cap, h1, _⟩ := h
  exact ⟨a, cap, h1⟩

theorem RowOf.nil {α : Type} (cells : α → List Value) (s : Nat) (ok : World → α → Prop) (w : World) : RowOf cells s ok w (.slice none 0 0) [] :=
  ⟨none, 0, rfl, by simp, by simp, (fun p h => by cases h), (fun _ => ⟨rfl, rfl⟩), fun i x h => by simp at h⟩

def Itm.okW (w : World) (x : Itm) : Prop := x.ok
def Loc.okW (w : World) (x : Loc) : Prop := I64 x.kind ∧ I64 x.rc
def Ste.okW (w : World) (x : Ste) : Prop := I64 x.th ∧ I64 x.pl ∧ I64 x.rc
def Sec.okW (w : World) (x : Sec) : Prop := I64 x.th ∧ I64 x.fr ∧ I64 x.to
abbrev Items (w : World) (v : Value) (l : List Itm) : Prop := RowOf Itm.cells 3 Itm.okW w v l
abbrev Locs (w : World) (v : Value) (l : List Loc) : Prop := RowOf Loc.cells 3 Loc.okW w v l
abbrev Stes (w : World) (v : Value) (l : List Ste) : Prop := RowOf Ste.cells 3 Ste.okW w v l
abbrev Secs (w : World) (v : Value) (l : List Sec) : Prop := RowOf Sec.cells 3 Sec.okW w v l
def Ins.nums (x : Ins) : Prop := I64 x.op ∧ I64 x.dst ∧ I64 x.src ∧ I64 x.rc ∧ I64 x.n ∧ I64 x.to
def Ins.okW (w : World) (x : Ins) : Prop := x.nums ∧ Items w x.iv x.items ∧ Items w x.xv x.index
abbrev Inss (w : World) (v : Value) (l : List Ins) : Prop := RowOf Ins.cells 8 Ins.okW w v l
def Bd.okW (w : World) (x : Bd) : Prop := I64 x.most ∧ Locs w x.sv x.slots ∧ Inss w x.cv x.code
abbrev Bds (w : World) (v : Value) (l : List Bd) : Prop := RowOf Bd.cells 3 Bd.okW w v l
def Rl.okW (w : World) (x : Rl) : Prop := Locs w x.fv x.flds
abbrev Rls (w : World) (v : Value) (l : List Rl) : Prop := RowOf Rl.cells 1 Rl.okW w v l
def Cd.okW (w : World) (c : Cd) : Prop := Rls w c.rv c.recs ∧ Locs w c.gv c.globs ∧ Bds w c.tv c.threads ∧ Stes w c.ev c.sites ∧ Secs w c.cv c.secs

section
variable {w w' : World} (hb : Below w.heap.size w w')
theorem Items.kept {v l} (h : Items w v l) (hb : Below w.heap.size w w') : Items w' v l := RowOf.kept h hb (fun _ h => h)
theorem Locs.kept {v l} (h : Locs w v l) (hb : Below w.heap.size w w') : Locs w' v l := RowOf.kept h hb (fun _ h => h)
theorem Stes.kept {v l} (h : Stes w v l) (hb : Below w.heap.size w w') : Stes w' v l := RowOf.kept h hb (fun _ h => h)
theorem Secs.kept {v l} (h : Secs w v l) (hb : Below w.heap.size w w') : Secs w' v l := RowOf.kept h hb (fun _ h => h)
theorem Ins.kept {x : Ins} (h : x.okW w) (hb : Below w.heap.size w w') : x.okW w' := ⟨h.1, Items.kept h.2.1 hb, Items.kept h.2.2 hb⟩
theorem Inss.kept {v l} (h : Inss w v l) (hb : Below w.heap.size w w') : Inss w' v l := RowOf.kept h hb (fun _ h => Ins.kept h hb)
theorem Bd.kept {x : Bd} (h : x.okW w) (hb : Below w.heap.size w w') : x.okW w' := ⟨h.1, Locs.kept h.2.1 hb, Inss.kept h.2.2 hb⟩
theorem Bds.kept {v l} (h : Bds w v l) (hb : Below w.heap.size w w') : Bds w' v l := RowOf.kept h hb (fun _ h => Bd.kept h hb)
theorem Rl.kept {x : Rl} (h : x.okW w) (hb : Below w.heap.size w w') : x.okW w' := Locs.kept h hb
theorem Rls.kept {v l} (h : Rls w v l) (hb : Below w.heap.size w w') : Rls w' v l := RowOf.kept h hb (fun _ h => Rl.kept h hb)
theorem Cd.kept {c : Cd} (h : c.okW w) (hb : Below w.heap.size w w') : c.okW w' := ⟨Rls.kept h.1 hb, Locs.kept h.2.1 hb, Bds.kept h.2.2.1 hb, Stes.kept h.2.2.2.1 hb, Secs.kept h.2.2.2.2 hb⟩
end

/-! ### An argument is one -/

theorem i64_of {n : Int} (h : (Lit.int .i64 n).wf = true) : I64 n := bounds_i64 h

theorem cells_range (w : World) (a : Addr) (n : Nat) (cs : List Value) (h : w.cells? 0 a n = some cs) : cs.length = n ∧ ∀ j u, cs[j]? = some u → w.cell? (a.add j) = some u := by
  unfold World.cells? at h
  split at h
  · have hl := mapM_some_length h
    refine ⟨by simpa using hl, fun j u hj => ?_⟩
    have hjn : j < n := by have := (List.getElem?_eq_some_iff.1 hj).1; simp at hl; omega
    have := mapM_some_get h j j (by simp [hjn])
    rw [hj] at this
    exact this
  · cases h

section
variable {H : Type} {enc : TypeId × Value → H} {W : World} {n : Nat} {cs : List Value} {x : DataW H × List MemPlace}

theorem opens_rows {α : Type} {cells : α → List Value} {s : Nat} {ok : World → α → Prop} {t e : TypeId} (d : α) (hs : ∀ x, (cells x).length = s) (ht : Tryd.prog.underlying t = some (.slice e)) (hc : Tryd.prog.cellsOf e = s) (h0 : 0 < s)
    (he : ∀ {n : Nat} {cs : List Value} {x : DataW H × List MemPlace}, DataW.trod enc Tryd.prog W 0 (fun _ => true) true n e cs = some x → ∃ y : α, cs = cells y ∧ ok W y)
    (h : DataW.trod enc Tryd.prog W 0 (fun _ => true) true n t cs = some x) : ∃ (v : Value) (l : List α), cs = [v] ∧ RowOf cells s ok W v l := by
  rcases open_slice ht h with ⟨hcs, _⟩ | ⟨a, l, c, m, n, D, Pl, hcs, _, hl, hm, hmm, _, hel⟩
  · exact ⟨_, [], hcs, RowOf.nil _ _ _ _⟩
  · simp only [if_true] at hmm
    subst hmm
    have hspot : 0 < l → a.spot = none := by
      intro hp
      obtain ⟨cs', h1, h2⟩ := hel 0 (by omega)
      obtain ⟨hl1, hr⟩ := cells_range _ _ _ _ h1
      rw [hc] at hl1
      have hj : cs'[0]? = some (cs'[0]'(by omega)) := by simp
      have := World.cell?_spot (hr 0 _ hj)
      simpa [Addr.add] using this
    have hex : ∀ i, i < l → ∃ y : α, ∃ b off, (some a) = some ⟨b, off, none⟩ ∧ b < W.heap.size ∧ W.rangeAt b (off + i * s) (cells y) ∧ ok W y := by
      intro i hi
      obtain ⟨cs', h1, h2⟩ := hel i (by omega)
      obtain ⟨hl1, hr⟩ := cells_range _ _ _ _ h1
      obtain ⟨y, rfl, hy⟩ := he h2
      obtain ⟨b, off, sp⟩ := a
      have hsp : sp = none := hspot (by omega)
      subst hsp
      rw [hc] at hr hl1
      have hr' : W.rangeAt b (off + i * s) (cells y) := fun j u hu => by
        have := hr j u hu
        simpa only [add_plain] using this
      have hj : (cells y)[0]? = some ((cells y)[0]'(by omega)) := by simp
      exact ⟨y, b, off, rfl, World.block_lt_of_cell? W _ (hr' 0 _ hj), hr', hy⟩
    obtain ⟨f, hf⟩ := @choose_lt α ⟨d⟩ _ _ hex
    refine ⟨_, (List.range l).map f, hcs, some a, m, by simp, by simpa using hl, hm, ?_, (fun h => by cases h), ?_⟩
    · rintro p hp ⟨_, hl'⟩
      cases hp
      exact hspot (by simpa using hl')
    · intro i y hy
      have hi : i < l := by
        have := (List.getElem?_eq_some_iff.1 hy).1
        simpa using this
      have : f i = y := by simpa [hi] using hy
      subst this
      exact hf i hi

theorem cells3 : Tryd.prog.cellsOf 3 = 1 := by kernel_rfl
theorem cells4 : Tryd.prog.cellsOf 4 = 1 := by kernel_rfl
theorem cells76 : Tryd.prog.cellsOf 23 = 1 := by kernel_rfl
theorem cells78 : Tryd.prog.cellsOf 94 = 3 := by kernel_rfl
theorem cells42 : Tryd.prog.cellsOf 60 = 3 := by kernel_rfl
theorem cells45 : Tryd.prog.cellsOf 63 = 3 := by kernel_rfl
theorem cells48 : Tryd.prog.cellsOf 66 = 3 := by kernel_rfl
theorem cells39 : Tryd.prog.cellsOf 55 = 3 := by kernel_rfl
theorem cells33 : Tryd.prog.cellsOf 58 = 8 := by kernel_rfl
theorem cells31 : Tryd.prog.cellsOf 56 = 1 := by kernel_rfl
theorem cells37 : Tryd.prog.cellsOf 53 = 1 := by kernel_rfl
theorem cells23 : Tryd.prog.cellsOf 36 = 1 := by kernel_rfl
theorem cells22 : Tryd.prog.cellsOf 35 = 1 := by kernel_rfl
theorem cells24 : Tryd.prog.cellsOf 37 = 1 := by kernel_rfl
theorem cells25 : Tryd.prog.cellsOf 38 = 1 := by kernel_rfl
theorem cells26 : Tryd.prog.cellsOf 39 = 1 := by kernel_rfl
theorem cells28 : Tryd.prog.cellsOf 41 = 5 := by kernel_rfl

theorem opens_item (h : DataW.trod enc Tryd.prog W 0 (fun _ => true) true n 94 cs = some x) : ∃ y : Itm, cs = y.cells ∧ y.okW W := by
  have hl : cs.length = 3 := by obtain ⟨_, _, _, _, hl, _⟩ := DataW.trod_struct Tryd.underlying94 h; rw [cells78] at hl; exact hl
  match cs, hl with
  | [c0, c1, c2], _ =>
  obtain ⟨y0, y1, y2, n', _, _, t0, t1, t2⟩ := trod_struct3 Tryd.underlying94 h
  simp only [cells3, cells76] at t0 t1 t2
  obtain ⟨k, e0, _, w0⟩ := DataW.trod_int Tryd.underlying3 t0
  obtain ⟨u, e1, _, w1⟩ := DataW.trod_int Tryd.underlying3 t1
  obtain ⟨s, e2, _, w2⟩ := DataW.trod_int Tryd.underlying23 t2
  simp at e0 e1 e2
  subst e0 e1 e2
  have b0 := bounds_i64 w0
  have b1 := bounds_i64 w1
  have b2 := bounds_u64 w2
  exact ⟨⟨k, u, s⟩, rfl, ⟨b0.1, b0.2, b1.1, b1.2, b2.1, b2.2⟩⟩

theorem opens_loc (h : DataW.trod enc Tryd.prog W 0 (fun _ => true) true n 60 cs = some x) : ∃ y : Loc, cs = y.cells ∧ y.okW W := by
  have hl : cs.length = 3 := by obtain ⟨_, _, _, _, hl, _⟩ := DataW.trod_struct Tryd.underlying60 h; rw [cells42] at hl; exact hl
  match cs, hl with
  | [c0, c1, c2], _ =>
  obtain ⟨y0, y1, y2, n', _, _, t0, t1, t2⟩ := trod_struct3 Tryd.underlying60 h
  simp only [cells3, cells4] at t0 t1 t2
  obtain ⟨k, e0, _, w0⟩ := DataW.trod_int Tryd.underlying3 t0
  obtain ⟨u, e1, _, w1⟩ := DataW.trod_int Tryd.underlying3 t1
  obtain ⟨s, e2, _⟩ := DataW.trod_bool Tryd.underlying4 t2
  simp at e0 e1 e2
  subst e0 e1 e2
  exact ⟨⟨k, u, s⟩, rfl, i64_of w0, i64_of w1⟩

theorem opens_sec (h : DataW.trod enc Tryd.prog W 0 (fun _ => true) true n 63 cs = some x) : ∃ y : Sec, cs = y.cells ∧ y.okW W := by
  have hl : cs.length = 3 := by obtain ⟨_, _, _, _, hl, _⟩ := DataW.trod_struct Tryd.underlying63 h; rw [cells45] at hl; exact hl
  match cs, hl with
  | [c0, c1, c2], _ =>
  obtain ⟨y0, y1, y2, n', _, _, t0, t1, t2⟩ := trod_struct3 Tryd.underlying63 h
  simp only [cells3] at t0 t1 t2
  obtain ⟨k, e0, _, w0⟩ := DataW.trod_int Tryd.underlying3 t0
  obtain ⟨u, e1, _, w1⟩ := DataW.trod_int Tryd.underlying3 t1
  obtain ⟨s, e2, _, w2⟩ := DataW.trod_int Tryd.underlying3 t2
  simp at e0 e1 e2
  subst e0 e1 e2
  exact ⟨⟨k, u, s⟩, rfl, i64_of w0, i64_of w1, i64_of w2⟩

theorem opens_ste (h : DataW.trod enc Tryd.prog W 0 (fun _ => true) true n 66 cs = some x) : ∃ y : Ste, cs = y.cells ∧ y.okW W := by
  have hl : cs.length = 3 := by obtain ⟨_, _, _, _, hl, _⟩ := DataW.trod_struct Tryd.underlying66 h; rw [cells48] at hl; exact hl
  match cs, hl with
  | [c0, c1, c2], _ =>
  obtain ⟨y0, y1, y2, n', _, _, t0, t1, t2⟩ := trod_struct3 Tryd.underlying66 h
  simp only [cells3] at t0 t1 t2
  obtain ⟨k, e0, _, w0⟩ := DataW.trod_int Tryd.underlying3 t0
  obtain ⟨u, e1, _, w1⟩ := DataW.trod_int Tryd.underlying3 t1
  obtain ⟨s, e2, _, w2⟩ := DataW.trod_int Tryd.underlying3 t2
  simp at e0 e1 e2
  subst e0 e1 e2
  exact ⟨⟨k, u, s⟩, rfl, i64_of w0, i64_of w1, i64_of w2⟩

theorem opens_items (h : DataW.trod enc Tryd.prog W 0 (fun _ => true) true n 56 cs = some x) : ∃ (v : Value) (l : List Itm), cs = [v] ∧ Items W v l :=
  opens_rows Itm.blank (fun _ => rfl) Tryd.underlying56 cells78 (by omega) opens_item h
theorem opens_locs (h : DataW.trod enc Tryd.prog W 0 (fun _ => true) true n 36 cs = some x) : ∃ (v : Value) (l : List Loc), cs = [v] ∧ Locs W v l :=
  opens_rows ⟨0, 0, false⟩ (fun _ => rfl) Tryd.underlying36 cells42 (by omega) opens_loc h
theorem opens_secs (h : DataW.trod enc Tryd.prog W 0 (fun _ => true) true n 39 cs = some x) : ∃ (v : Value) (l : List Sec), cs = [v] ∧ Secs W v l :=
  opens_rows ⟨0, 0, 0⟩ (fun _ => rfl) Tryd.underlying39 cells45 (by omega) opens_sec h
theorem opens_stes (h : DataW.trod enc Tryd.prog W 0 (fun _ => true) true n 38 cs = some x) : ∃ (v : Value) (l : List Ste), cs = [v] ∧ Stes W v l :=
  opens_rows ⟨0, 0, 0⟩ (fun _ => rfl) Tryd.underlying38 cells48 (by omega) opens_ste h
theorem opens_rl (h : DataW.trod enc Tryd.prog W 0 (fun _ => true) true n 36 cs = some x) : ∃ y : Rl, cs = y.cells ∧ y.okW W := by
  obtain ⟨v, l, e, h⟩ := opens_locs h
  exact ⟨⟨l, v⟩, e, h⟩
theorem opens_rls (h : DataW.trod enc Tryd.prog W 0 (fun _ => true) true n 35 cs = some x) : ∃ (v : Value) (l : List Rl), cs = [v] ∧ Rls W v l :=
  opens_rows ⟨[], .bool false⟩ (fun _ => rfl) Tryd.underlying35 cells23 (by omega) opens_rl h

theorem opens_ins (h : DataW.trod enc Tryd.prog W 0 (fun _ => true) true n 58 cs = some x) : ∃ y : Ins, cs = y.cells ∧ y.okW W := by
  obtain ⟨xs, m, rfl, _, hl, hx, hf⟩ := DataW.trod_struct Tryd.underlying58 h
  rw [cells33] at hl
  match xs, hx with
  | [y0, y1, y2, y3, y4, y5, y6, y7], _ =>
  match cs, hl with
  | [c0, c1, c2, c3, c4, c5, c6, c7], _ =>
  have t0 := hf 0 _ rfl
  have t1 := hf 1 _ rfl
  have t2 := hf 2 _ rfl
  have t3 := hf 3 _ rfl
  have t4 := hf 4 _ rfl
  have t5 := hf 5 _ rfl
  have t6 := hf 6 _ rfl
  have t7 := hf 7 _ rfl
  simp [cells3, cells31] at t0 t1 t2 t3 t4 t5 t6 t7
  obtain ⟨k0, e0, _, w0⟩ := DataW.trod_int Tryd.underlying3 t0
  obtain ⟨k1, e1, _, w1⟩ := DataW.trod_int Tryd.underlying3 t1
  obtain ⟨k2, e2, _, w2⟩ := DataW.trod_int Tryd.underlying3 t2
  obtain ⟨k3, e3, _, w3⟩ := DataW.trod_int Tryd.underlying3 t3
  obtain ⟨k4, e4, _, w4⟩ := DataW.trod_int Tryd.underlying3 t4
  obtain ⟨k5, e5, _, w5⟩ := DataW.trod_int Tryd.underlying3 t5
  obtain ⟨v6, l6, e6, w6⟩ := opens_items t6
  obtain ⟨v7, l7, e7, w7⟩ := opens_items t7
  simp at e0 e1 e2 e3 e4 e5 e6 e7
  subst e0 e1 e2 e3 e4 e5 e6 e7
  exact ⟨⟨k0, k1, k2, k3, k4, k5, l6, c6, l7, c7⟩, rfl, ⟨i64_of w0, i64_of w1, i64_of w2, i64_of w3, i64_of w4, i64_of w5⟩, w6, w7⟩
theorem opens_inss (h : DataW.trod enc Tryd.prog W 0 (fun _ => true) true n 53 cs = some x) : ∃ (v : Value) (l : List Ins), cs = [v] ∧ Inss W v l :=
  opens_rows ⟨0, 0, 0, 0, 0, 0, [], .bool false, [], .bool false⟩ (fun _ => rfl) Tryd.underlying53 cells33 (by omega) opens_ins h

theorem opens_bd (h : DataW.trod enc Tryd.prog W 0 (fun _ => true) true n 55 cs = some x) : ∃ y : Bd, cs = y.cells ∧ y.okW W := by
  have hl : cs.length = 3 := by obtain ⟨_, _, _, _, hl, _⟩ := DataW.trod_struct Tryd.underlying55 h; rw [cells39] at hl; exact hl
  match cs, hl with
  | [c0, c1, c2], _ =>
  obtain ⟨y0, y1, y2, n', _, _, t0, t1, t2⟩ := trod_struct3 Tryd.underlying55 h
  simp [cells3, cells23, cells37] at t0 t1 t2
  obtain ⟨v0, l0, e0, w0⟩ := opens_locs t0
  obtain ⟨v1, l1, e1, w1⟩ := opens_inss t1
  obtain ⟨s, e2, _, w2⟩ := DataW.trod_int Tryd.underlying3 t2
  simp at e0 e1 e2
  subst e0 e1 e2
  exact ⟨⟨l0, c0, l1, c1, s⟩, rfl, i64_of w2, w0, w1⟩
theorem opens_bds (h : DataW.trod enc Tryd.prog W 0 (fun _ => true) true n 37 cs = some x) : ∃ (v : Value) (l : List Bd), cs = [v] ∧ Bds W v l :=
  opens_rows ⟨[], .bool false, [], .bool false, 0⟩ (fun _ => rfl) Tryd.underlying37 cells39 (by omega) opens_bd h

theorem opens_cd (h : DataW.trod enc Tryd.prog W 0 (fun _ => true) true n 41 cs = some x) : ∃ y : Cd, cs = y.cells ∧ y.okW W := by
  obtain ⟨xs, m, rfl, _, hl, hx, hf⟩ := DataW.trod_struct Tryd.underlying41 h
  rw [cells28] at hl
  match xs, hx with
  | [y0, y1, y2, y3, y4], _ =>
  match cs, hl with
  | [c0, c1, c2, c3, c4], _ =>
  have t0 := hf 0 _ rfl
  have t1 := hf 1 _ rfl
  have t2 := hf 2 _ rfl
  have t3 := hf 3 _ rfl
  have t4 := hf 4 _ rfl
  simp [cells22, cells23, cells24, cells25, cells26] at t0 t1 t2 t3 t4
  obtain ⟨v0, l0, e0, w0⟩ := opens_rls t0
  obtain ⟨v1, l1, e1, w1⟩ := opens_locs t1
  obtain ⟨v2, l2, e2, w2⟩ := opens_bds t2
  obtain ⟨v3, l3, e3, w3⟩ := opens_stes t3
  obtain ⟨v4, l4, e4, w4⟩ := opens_secs t4
  simp at e0 e1 e2 e3 e4
  subst e0 e1 e2 e3 e4
  exact ⟨⟨l0, c0, l1, c1, l2, c2, l3, c3, l4, c4⟩, rfl, w0, w1, w2, w3, w4⟩
end

/-- As an argument. -/
def IsCd (w : World) (v : Value) (c : Cd) : Prop := v = .agg #[c.rv, c.gv, c.tv, c.ev, c.cv] ∧ c.okW w
theorem open28 {H : Type} {enc : TypeId × Value → H} {W : World} {base : Nat} {v : Value} {d : DataW H} {p : List MemPlace} (hv : Value.okWide Tryd.prog W .any base 41 v) (h : DataW.Trod enc Tryd.prog W 0 (fun _ => true) true 41 v d p) : ∃ c, IsCd W v c := by
  obtain ⟨cs, rfl, _⟩ := okWide_struct Tryd.underlying41 hv
  obtain ⟨fuel, hf⟩ := h
  obtain ⟨c, hc, ok⟩ := opens_cd hf
  have : cs = #[c.rv, c.gv, c.tv, c.ev, c.cv] := by
    have e : cs.toList = c.cells := by simpa [Value.cells] using hc
    rw [← Array.toArray_toList (xs := cs), e]; rfl
  exact ⟨c, by rw [this], ok⟩
end Go.Proofs.YtdpbapoahfggeaaDoor
/- Contracts of calc's takes, canJoin and canBe, over the landed code. -/
namespace Go.Proofs.YtdpbapoahfggeaaDoor
open Go.ChangeShapes Go.WideShapes Go.ChangeAt Go.RowKit
set_option linter.unusedVariables false
set_option linter.unusedSimpArgs false

/-- An item as a value. -/
def Itm.val (x : Itm) : Value := .agg #[.int .i64 x.op, .int .i64 x.bin, .int .u64 x.n]

set_option maxHeartbeats 400000 in
theorem takes_any (op : Int) (w : World) : Calls Tryd.prog 88 #[.int .i64 op] w fun e w' => e = .returned (.int .i64 (tk op)) ∧ w' = w := by
  go_enter Tryd.func88, Tryd.ntmps88
  go_wp2
  all_goals
    go_ret
    exact ⟨by simp [tk, *], rfl⟩

set_option maxHeartbeats 400000 in
theorem canJoin_any (op bin : Int) (w : World) : Calls Tryd.prog 91 #[.int .i64 op, .int .i64 bin] w fun e w' => e = .returned (.bool (canJ op bin)) ∧ w' = w := by
  go_enter Tryd.func91, Tryd.ntmps91
  go_wp2
  all_goals
    go_ret
    exact ⟨congrArg (fun b => Ending.returned (Value.bool b)) (by first | (simp [canJ, *]; done) | (simp [canJ, *]; intros; omega)), rfl⟩

set_option maxHeartbeats 1000000 in
theorem canBe_any (s : Int) (x : Itm) (w : World) (hx : x.ok) (h0 : -9223372036854775808 ≤ s) (h1 : s ≤ 9223372036854775807) :
    Calls Tryd.prog 89 #[.int .i64 s, .agg #[.int .i64 x.op, .int .i64 x.bin, .int .u64 x.n]] w fun e w' => e = .returned (.bool (can s x)) ∧ Below w.heap.size w w' := by
  obtain ⟨op, bin, n⟩ := x
  go_enter Tryd.func89, Tryd.ntmps89
  go_wp2_with (go_at_call 91; refine (canJoin_any _ _ _).mono ?_; rintro e w' ⟨rfl, rfl⟩)
  all_goals
    go_ret
    refine ⟨congrArg (fun b => Ending.returned (Value.bool b)) ?_, (Below.refl _ _).alloc (Nat.le_refl _) _⟩
    first | (simp [can, tk, *]; done) | (simp [can, tk, *]; intros; omega)

end Go.Proofs.YtdpbapoahfggeaaDoor
/- A row of marks that grows, step by step, is closed once it has gone round as often as there are sites. Plain mathematics. -/
namespace Go.Proofs.YtdpbapoahfggeaaDoor
set_option linter.unusedVariables false
set_option linter.unusedSimpArgs false

section
variable {σ : Type}
def innerF (u : Nat → Nat → σ → σ) (a : Nat) : Nat → σ → σ
  | 0, s => s
  | b + 1, s => u a b (innerF u a b s)
def roundF (u : Nat → Nat → σ → σ) (n : Nat) : Nat → σ → σ
  | 0, s => s
  | a + 1, s => innerF u a n (roundF u n a s)
def roundsF (u : Nat → Nat → σ → σ) (n : Nat) : Nat → σ → σ
  | 0, s => s
  | r + 1, s => roundF u n n (roundsF u n r s)

def cntF (A : Nat → Bool) : Nat → Nat
  | 0 => 0
  | n + 1 => cntF A n + (if A n then 1 else 0)
theorem cnt_le (A : Nat → Bool) : ∀ n, cntF A n ≤ n
  | 0 => Nat.le_refl _
  | n + 1 => by have := cnt_le A n; unfold cntF; split <;> omega
theorem cnt_mono {A B : Nat → Bool} : ∀ n, (∀ c, c < n → A c = true → B c = true) → cntF A n ≤ cntF B n
  | 0, _ => Nat.le_refl _
  | n + 1, h => by
    have := cnt_mono n (fun c hc => h c (by omega))
    unfold cntF
    by_cases q : A n = true
    · rw [if_pos q, if_pos (h n (by omega) q)]; omega
    · rw [if_neg q]; omega
theorem cnt_more {A B : Nat → Bool} : ∀ n, (∀ c, c < n → A c = true → B c = true) → (∃ c, c < n ∧ A c = false ∧ B c = true) → cntF A n + 1 ≤ cntF B n
  | 0, _, ⟨c, hc, _⟩ => by omega
  | n + 1, h, ⟨c, hc, h1, h2⟩ => by
    unfold cntF
    by_cases e : c = n
    · subst e
      have := cnt_mono c (fun d hd => h d (by omega))
      rw [h1, h2]
      simp
      omega
    · have := cnt_more n (fun d hd => h d (by omega)) ⟨c, by omega, h1, h2⟩
      by_cases q : A n = true
      · rw [if_pos q, if_pos (h n (by omega) q)]; omega
      · rw [if_neg q]; omega
theorem cnt_full {A : Nat → Bool} : ∀ n, n ≤ cntF A n → ∀ c, c < n → A c = true
  | 0, _, c, hc => by omega
  | n + 1, h, c, hc => by
    have := cnt_le A n
    unfold cntF at h
    by_cases q : A n = true
    · rw [if_pos q] at h
      by_cases e : c = n
      · rw [e]; exact q
      · exact cnt_full n (by omega) c (by omega)
    · rw [if_neg q] at h; omega

structure Grows (n : Nat) (M : Nat → Nat → Bool) (A : σ → Nat → Bool) (u : Nat → Nat → σ → σ) (P : σ → Prop) : Prop where
  keep : ∀ s a b, P s → a < n → b < n → P (u a b s)
  mono : ∀ s a b c, P s → a < n → b < n → c < n → A s c = true → A (u a b s) c = true
  add : ∀ s a b, P s → a < n → b < n → A s a = true → M a b = true → A (u a b s) b = true
  sound : ∀ s a b c, P s → a < n → b < n → c < n → A (u a b s) c = true → A s c = true ∨ c = b ∧ A s a = true ∧ M a b = true

variable {n : Nat} {M : Nat → Nat → Bool} {A : σ → Nat → Bool} {u : Nat → Nat → σ → σ} {P : σ → Prop}

def Closd (n : Nat) (M : Nat → Nat → Bool) (B : Nat → Bool) : Prop := ∀ a b, a < n → b < n → B a = true → M a b = true → B b = true

theorem inner_grows (h : Grows n M A u P) {s : σ} (hs : P s) {a : Nat} (ha : a < n) : ∀ b, b ≤ n →
    P (innerF u a b s) ∧ (∀ c, c < n → A s c = true → A (innerF u a b s) c = true) ∧ (∀ c, c < b → A s a = true → M a c = true → A (innerF u a b s) c = true) ∧
    (Closd n M (A s) → ∀ c, c < n → A (innerF u a b s) c = true → A s c = true)
  | 0, _ => ⟨hs, fun c _ h => h, fun c hc => by omega, fun _ c _ h => h⟩
  | b + 1, hb => by
    obtain ⟨h1, h2, h3, h4⟩ := inner_grows h hs ha b (by omega)
    refine ⟨h.keep _ _ _ h1 ha (by omega), fun c hc q => h.mono _ _ _ _ h1 ha (by omega) hc (h2 c hc q), fun c hc q m => ?_, fun hcl c hc q => ?_⟩
    · by_cases e : c = b
      · subst e; exact h.add _ _ _ h1 ha (by omega) (h2 a ha q) m
      · exact h.mono _ _ _ _ h1 ha (by omega) (by omega) (h3 c (by omega) q m)
    · rcases h.sound _ _ _ _ h1 ha (by omega) hc q with q | ⟨e, q, m⟩
      · exact h4 hcl c hc q
      · rw [e]; exact hcl a b ha (by omega) (h4 hcl a ha q) m
theorem round_grows (h : Grows n M A u P) {s : σ} (hs : P s) : ∀ a, a ≤ n →
    P (roundF u n a s) ∧ (∀ c, c < n → A s c = true → A (roundF u n a s) c = true) ∧ (∀ d c, d < a → c < n → A s d = true → M d c = true → A (roundF u n a s) c = true) ∧
    (Closd n M (A s) → ∀ c, c < n → A (roundF u n a s) c = true → A s c = true)
  | 0, _ => ⟨hs, fun c _ h => h, fun d c hd => by omega, fun _ c _ h => h⟩
  | a + 1, ha => by
    obtain ⟨h1, h2, h3, h4⟩ := round_grows h hs a (by omega)
    obtain ⟨i1, i2, i3, i4⟩ := inner_grows h h1 (show a < n by omega) n (Nat.le_refl _)
    refine ⟨i1, fun c hc q => i2 c hc (h2 c hc q), fun d c hd hc q m => ?_, fun hcl c hc q => ?_⟩
    · by_cases e : d = a
      · subst e; exact i3 c hc (h2 d (by omega) q) m
      · exact i2 c hc (h3 d c (by omega) hc q m)
    · have hcl' : Closd n M (A (roundF u n a s)) := fun x y hx hy q m => h2 y hy (hcl x y hx hy (h4 hcl x hx q) m)
      exact h4 hcl c hc (i4 hcl' c hc q)
theorem rounds_grows (h : Grows n M A u P) {s : σ} (hs : P s) : ∀ r,
    P (roundsF u n r s) ∧ (∀ c, c < n → A s c = true → A (roundsF u n r s) c = true) ∧ (Closd n M (A (roundsF u n r s)) ∨ r ≤ cntF (A (roundsF u n r s)) n)
  | 0 => ⟨hs, fun c _ h => h, .inr (Nat.zero_le _)⟩
  | r + 1 => by
    obtain ⟨h1, h2, h3⟩ := rounds_grows h hs r
    obtain ⟨i1, i2, i3, i4⟩ := round_grows h h1 n (Nat.le_refl _)
    refine ⟨i1, fun c hc q => i2 c hc (h2 c hc q), ?_⟩
    by_cases hcl : Closd n M (A (roundsF u n r s))
    · exact .inl (fun x y hx hy q m => i2 y hy (hcl x y hx hy (i4 hcl x hx q) m))
    · refine .inr ?_
      have hr : r ≤ cntF (A (roundsF u n r s)) n := by
        rcases h3 with q | q
        · exact absurd q hcl
        · exact q
      have hex : ∃ c, c < n ∧ A (roundsF u n r s) c = false ∧ A (roundF u n n (roundsF u n r s)) c = true := by
        refine Classical.byContradiction (fun hno => hcl (fun x y hx hy q m => ?_))
        cases e : A (roundsF u n r s) y
        · exact absurd ⟨y, hy, e, i3 x y hx hy q m⟩ hno
        · rfl
      have := cnt_more n (fun c hc q => i2 c hc q) hex
      show r + 1 ≤ cntF (A (roundF u n n (roundsF u n r s))) n
      omega
/-- After as many rounds as there are sites all is closed. -/
theorem rounds_closed (h : Grows n M A u P) {s : σ} (hs : P s) : P (roundsF u n n s) ∧ (∀ c, c < n → A s c = true → A (roundsF u n n s) c = true) ∧ Closd n M (A (roundsF u n n s)) := by
  obtain ⟨h1, h2, h3⟩ := rounds_grows h hs n
  refine ⟨h1, h2, ?_⟩
  rcases h3 with q | q
  · exact q
  · exact fun x y _ hy _ _ => cnt_full n q y hy
end

/-! ### The document's classes -/

/-- One look at two sites. -/
def updL (n : Nat) (L : List Nat) (v a b : Nat) (l : List Nat) : List Nat := if l.getD a 0 = v ∧ l.getD b 0 = 0 ∧ MeetB n L a b = true then l.set b v else l
theorem updL_yes {n : Nat} {L : List Nat} {v a b : Nat} {l : List Nat} (h : l.getD a 0 = v ∧ l.getD b 0 = 0 ∧ MeetB n L a b = true) : updL n L v a b l = l.set b v := if_pos h
theorem updL_no {n : Nat} {L : List Nat} {v a b : Nat} {l : List Nat} (h : ¬ (l.getD a 0 = v ∧ l.getD b 0 = 0 ∧ MeetB n L a b = true)) : updL n L v a b l = l := if_neg h

structure DocP (n : Nat) (L : List Nat) (k v : Nat) (l0 l : List Nat) : Prop where
  len : l.length = n
  of : ∀ b, b < n → l.getD b 0 = l0.getD b 0 ∨ l0.getD b 0 = 0 ∧ l.getD b 0 = v ∧ Jo n L k b
  at0 : l.getD k 0 = v
theorem doc_grows {n : Nat} {L : List Nat} {k v : Nat} {l0 : List Nat} (hk : k < n) (hv : 1 ≤ v) (h0 : ∀ b, b < n → l0.getD b 0 ≠ v) (hz : ∀ b, b < n → Jo n L k b → l0.getD b 0 = 0) :
    Grows n (MeetB n L) (fun l b => decide (l.getD b 0 = v)) (updL n L v) (DocP n L k v l0) := by
  have jo : ∀ l a, DocP n L k v l0 l → a < n → l.getD a 0 = v → Jo n L k a := fun l a hP ha e => by
    rcases hP.of a ha with q | q
    · exact absurd (q.symm.trans e) (h0 a ha)
    · exact q.2.2
  refine ⟨fun l a b hP ha hb => ?_, fun l a b c hP ha hb hc q => ?_, fun l a b hP ha hb q m => ?_, fun l a b c hP ha hb hc q => ?_⟩
  · by_cases e : l.getD a 0 = v ∧ l.getD b 0 = 0 ∧ MeetB n L a b = true
    · rw [updL_yes e]
      have jb := (jo l a hP ha e.1).step e.2.2
      refine ⟨by simp [hP.len], fun c hc => ?_, ?_⟩
      · rw [getD_set]
        by_cases ec : b = c
        · subst ec
          rw [if_pos ⟨rfl, by rw [hP.len]; exact hb⟩]
          exact .inr ⟨hz b hb jb, rfl, jb⟩
        · rw [if_neg (fun q => ec q.1)]
          exact hP.of c hc
      · rw [getD_set]
        split
        · rfl
        · exact hP.at0
    · rw [updL_no e]; exact hP
  · simp only [decide_eq_true_eq] at q ⊢
    by_cases e : l.getD a 0 = v ∧ l.getD b 0 = 0 ∧ MeetB n L a b = true
    · rw [updL_yes e, getD_set]
      split
      · rfl
      · exact q
    · rw [updL_no e]; exact q
  · simp only [decide_eq_true_eq] at q ⊢
    by_cases e : l.getD b 0 = 0
    · rw [updL_yes ⟨q, e, m⟩, getD_set, if_pos ⟨rfl, by rw [hP.len]; exact hb⟩]
    · rw [updL_no (fun x => e x.2.1)]
      have jb := (jo l a hP ha q).step m
      rcases hP.of b hb with x | x
      · rw [hz b hb jb] at x; exact absurd x e
      · exact x.2.1
  · simp only [decide_eq_true_eq] at q ⊢
    by_cases e : l.getD a 0 = v ∧ l.getD b 0 = 0 ∧ MeetB n L a b = true
    · rw [updL_yes e, getD_set] at q
      by_cases ec : b = c
      · subst ec; exact .inr ⟨rfl, e.1, e.2.2⟩
      · rw [if_neg (fun q => ec q.1)] at q
        exact .inl q
    · rw [updL_no e] at q; exact .inl q

/-- The classes of all sites below k, and whoever is one with them, have their numbers. -/
structure DocK (n : Nat) (L : List Nat) (l : List Nat) (k v : Nat) (rt : Nat → Nat) : Prop where
  len : l.length = n
  le : k ≤ n
  low : ∀ c, 1 ≤ c → c ≤ v → rt c < k ∧ ∀ j, Jo n L (rt c) j → rt c ≤ j
  up : ∀ c d, 1 ≤ c → c < d → d ≤ v → rt c < rt d
  is : ∀ i, i < n → ∀ c, 1 ≤ c → (l.getD i 0 = c ↔ c ≤ v ∧ Jo n L (rt c) i)
  all : ∀ i, i < k → l.getD i 0 ≠ 0
  most : v ≤ k
theorem DocK.skip {n : Nat} {L l : List Nat} {k v : Nat} {rt : Nat → Nat} (h : DocK n L l k v rt) (hk : k < n) (h0 : l.getD k 0 ≠ 0) : DocK n L l (k + 1) v rt :=
  ⟨h.len, hk, fun c h1 h2 => ⟨by have := (h.low c h1 h2).1; omega, (h.low c h1 h2).2⟩, h.up, h.is, fun i hi => by
    by_cases e : i = k
    · rw [e]; exact h0
    · exact h.all i (by omega), by have := h.most; omega⟩
theorem DocK.new {n : Nat} {L l : List Nat} {k v : Nat} {rt : Nat → Nat} (h : DocK n L l k v rt) (hk : k < n) (h0 : l.getD k 0 = 0) :
    DocK n L (roundsF (updL n L (v + 1)) n n (l.set k (v + 1))) (k + 1) (v + 1) (fun c => if c = v + 1 then k else rt c) := by
  have zero : ∀ b, b < n → Jo n L k b → l.getD b 0 = 0 := fun b hb j => by
    refine Classical.byContradiction (fun hne => ?_)
    obtain ⟨c1, c2⟩ := (h.is b hb _ (by omega)).1 rfl
    have := (h.is k hk (l.getD b 0) (by omega)).2 ⟨c1, c2.trans j.symm⟩
    omega
  have least : ∀ j, Jo n L k j → k ≤ j := fun j hj => by
    refine Classical.byContradiction (fun hne => ?_)
    have := zero j (by omega) hj
    exact h.all j (by omega) this
  have nov : ∀ b, b < n → l.getD b 0 ≠ v + 1 := fun b hb e => by
    have := ((h.is b hb (v + 1) (by omega)).1 e).1
    omega
  have start : DocP n L k (v + 1) l (l.set k (v + 1)) := by
    refine ⟨by simp [h.len], fun b hb => ?_, ?_⟩
    · rw [getD_set]
      by_cases e : k = b
      · subst e
        rw [if_pos ⟨rfl, by rw [h.len]; exact hk⟩]
        exact .inr ⟨h0, rfl, Jo.refl _ _ _⟩
      · rw [if_neg (fun q => e q.1)]
        exact .inl rfl
    · rw [getD_set, if_pos ⟨rfl, by rw [h.len]; exact hk⟩]
  obtain ⟨hP, _, hcl⟩ := rounds_closed (doc_grows (L := L) hk (show 1 ≤ v + 1 by omega) nov zero) start
  generalize roundsF (updL n L (v + 1)) n n (l.set k (v + 1)) = l' at *
  have full : ∀ b, b < n → Jo n L k b → l'.getD b 0 = v + 1 := fun b hb j =>
    j (fun x => x < n → l'.getD x 0 = v + 1) (fun _ => hP.at0) (fun x y hx hm hy => by
      have hx' := (meet_iff.1 hm).1
      have := hcl x y hx' hy (decide_eq_true (hx hx')) hm
      simpa using this) hb
  have val : ∀ b, b < n → ¬ Jo n L k b → l'.getD b 0 = l.getD b 0 := fun b hb j => by
    rcases hP.of b hb with q | q
    · exact q
    · exact absurd q.2.2 j
  refine ⟨hP.len, hk, fun c h1 h2 => ?_, fun c d h1 h2 h3 => ?_, fun i hi c hc => ?_, fun i hi => ?_, by have := h.most; omega⟩
  · by_cases e : c = v + 1
    · rw [if_pos e]
      exact ⟨by omega, least⟩
    · rw [if_neg e]
      have := h.low c h1 (by omega)
      exact ⟨by omega, this.2⟩
  · rw [if_neg (show ¬ c = v + 1 by omega)]
    by_cases e : d = v + 1
    · rw [if_pos e]
      exact (h.low c h1 (by omega)).1
    · rw [if_neg e]
      exact h.up c d h1 h2 (by omega)
  · by_cases e : c = v + 1
    · subst e
      rw [if_pos rfl]
      by_cases j : Jo n L k i
      · exact ⟨fun _ => ⟨Nat.le_refl _, j⟩, fun _ => full i hi j⟩
      · rw [val i hi j]
        exact ⟨fun q => absurd q (nov i hi), fun q => absurd q.2 j⟩
    · rw [if_neg e]
      by_cases j : Jo n L k i
      · rw [full i hi j]
        constructor
        · intro q; exact absurd q.symm e
        · rintro ⟨q1, q2⟩
          have := (h.is k hk c hc).2 ⟨by omega, q2.trans j.symm⟩
          omega
      · rw [val i hi j, h.is i hi c hc]
        exact ⟨fun q => ⟨by omega, q.2⟩, fun q => ⟨by omega, q.2⟩⟩
  · by_cases e : i = k
    · rw [e, hP.at0]; omega
    · by_cases j : Jo n L k i
      · rw [full i (by omega) j]; omega
      · rw [val i (by omega) j]
        exact h.all i (by omega)
end Go.Proofs.YtdpbapoahfggeaaDoor
/- Items at an address. -/
namespace Go.Proofs.YtdpbapoahfggeaaDoor
open Go.ChangeShapes Go.WideShapes Go.ChangeAt Go.RowKit Go.Deep
set_option linter.unusedVariables false

/-- An item's three cells. -/
def Itm.at (x : Itm) (w : World) (b o : Nat) : Prop := w.cell? ⟨b, o, none⟩ = some (.int .i64 x.op) ∧ w.cell? ⟨b, o + 1, none⟩ = some (.int .i64 x.bin) ∧ w.cell? ⟨b, o + 2, none⟩ = some (.int .u64 x.n)

/-- Items at an address: so many rows of three cells. -/
def ItemsAt (w : World) (a : Option Addr) (xs : List Itm) : Prop :=
  ∀ i, i < xs.length → ∃ b off, a = some ⟨b, off, none⟩ ∧ b < w.heap.size ∧ (xs.getD i Itm.blank).at w b (off + i * 3) ∧ (xs.getD i Itm.blank).ok

theorem ItemsAt.kept {w w' : World} {a : Option Addr} {xs : List Itm} (h : ItemsAt w a xs) (hb : Below w.heap.size w w') : ItemsAt w' a xs := by
  intro i hi
  obtain ⟨b, off, e, hlt, ⟨c0, c1, c2⟩, ho⟩ := h i hi
  refine ⟨b, off, e, Nat.lt_of_lt_of_le hlt hb.size, ⟨?_, ?_, ?_⟩, ho⟩
  · rw [hb.cell hlt]; exact c0
  · rw [hb.cell hlt]; exact c1
  · rw [hb.cell hlt]; exact c2

theorem Items.at {w : World} {v : Value} {xs : List Itm} (h : Items w v xs) : ∃ a cap, v = .slice a xs.length cap ∧ ItemsAt w a xs := by
  obtain ⟨a, cap, h1, h2, h3, h4, h5, h6⟩ := h
  refine ⟨a, cap, h1, fun i hi => ?_⟩
  obtain ⟨b, off, e, hlt, hr, ho⟩ := h6 i (xs.getD i Itm.blank) (by simp [List.getD, hi])
  exact ⟨b, off, e, hlt, ⟨hr 0 _ rfl, hr 1 _ rfl, hr 2 _ rfl⟩, ho⟩
end Go.Proofs.YtdpbapoahfggeaaDoor
/- Contracts of calc's Good and of the document's Good, over the landed code: both answer goodB. -/
namespace Go.Proofs.YtdpbapoahfggeaaDoor
open Go.ChangeShapes Go.WideShapes Go.ChangeAt Go.RowKit
set_option linter.unusedVariables false

theorem drop_here {α : Type} (d : α) (l : List α) (j : Nat) (h : j < l.length) : l.drop j = l.getD j d :: l.drop (j + 1) := by
  rw [List.drop_eq_getElem_cons h]
  simp [List.getD, h]

theorem hgt_no (s : Int) (x : Itm) (l : List Itm) (h : Nat) (c : ¬ (can s x = true ∧ tk x.op ≤ h)) : hgt s (x :: l) h = none := by
  show (if _ then _ else _) = _
  rw [if_neg c]
theorem hgt_yes (s : Int) (x : Itm) (l : List Itm) (h : Nat) (c : can s x = true) (c2 : tk x.op ≤ h) : hgt s (x :: l) h = hgt s l (h - tk x.op + 1) := by
  show (if _ then _ else _) = _
  rw [if_pos ⟨c, c2⟩]

theorem good_none (s : Int) (l : List Itm) (h : hgt s l 0 = none) : goodB s l = false := by
  unfold goodB; rw [h]; simp
theorem good_some (s : Int) (l : List Itm) (k : Nat) (h : hgt s l 0 = some k) (h64 : l.length ≤ 64) : goodB s l = ((k : Int) == 1) := by
  unfold goodB; rw [h, decide_eq_true h64, Bool.eq_iff_iff]; simp; omega
theorem good_long (s : Int) (l : List Itm) (h64 : 64 < l.length) : goodB s l = false := by
  unfold goodB; rw [decide_eq_false (by omega)]; rfl


set_option maxRecDepth 100000 in
set_option maxHeartbeats 1000000 in
theorem good_any (s : Int) (a : Option Addr) (n cap : Nat) (xs : List Itm) (w : World) (hn : n = xs.length) (hx : ItemsAt w a xs) (hl : n ≤ 1000000) (h0 : -9223372036854775808 ≤ s) (h1 : s ≤ 9223372036854775807) :
    Calls Tryd.prog 82 #[.int .i64 s, .slice a n cap] w fun e w' => e = .returned (.bool (goodB s xs)) ∧ Below w.heap.size w w' := by
  have HN : Hid (n = xs.length) := hn
  have HX : Hid (ItemsAt w a xs) := hx
  clear hn hx
  by_cases h64 : 64 < n
  · have h64' : (64 : Int) < (n : Int) := by omega
    go_enter Tryd.func82, Tryd.ntmps82
    go_wp2
    go_ret
    exact ⟨retB (good_long s xs (by rw [← HN.out]; exact h64)).symm, Below.refl _ _⟩
  · have h64' : (n : Int) ≤ 64 := by omega
    go_enter Tryd.func82, Tryd.ntmps82
    go_wp2_with fail
    go_loopw [5, 14] (fun t5 t wr => ∃ (j h : Nat), t = .int .i64 j ∧ j ≤ n ∧ t5 = .int .i64 h ∧ h ≤ j ∧ Hid (hgt s (xs.drop j) h = hgt s xs 0) ∧ Hid (Below w.heap.size w wr)) (fun _ t _ => n - (intOf t).toNat)
    case atStart => exact ⟨0, 0, rfl, by omega, rfl, by omega, rfl, Below.refl _ _⟩
    case round =>
      obtain ⟨j, h, rfl, hj, rfl, hh, E, B⟩ := hrel
      by_cases hjn : j < n
      · obtain ⟨b, off, rfl, hb, ⟨c0, c1, c2⟩, ok⟩ := HX.out j (by rw [← HN.out]; exact hjn)
        rw [← B.out.cell hb] at c0 c1 c2
        have D : Hid (xs.drop j = xs.getD j Itm.blank :: xs.drop (j + 1)) := drop_here _ _ _ (by rw [← HN.out]; exact hjn)
        generalize xs.getD j Itm.blank = x at *
        have E2 : Hid (hgt s (x :: xs.drop (j + 1)) h = hgt s xs 0) := by rw [← D.out]; exact E.out
        have ok' : Hid x.ok := ok
        clear D E ok HX
        by_cases ht : tk x.op ≤ h
        · have HT : Hid (tk x.op ≤ h) := ht
          have q1 : ((tk x.op : Nat) : Int) ≤ (h : Int) := by omega
          have q2 : 0 ≤ (h : Int) - ((tk x.op : Nat) : Int) := by omega
          have C := fun W => canBe_any s x W ok'.out h0 h1
          cases hc : can s x
          · simp only [hc] at C
            have HC : Hid (can s x = false) := hc
            clear hc ht
            go_wp2_with (first | (go_at_call 88; refine (takes_any _ _).mono ?_; rintro e w' ⟨rfl, rfl⟩) | (go_at_call 89; refine (C _).mono ?_; rintro e w' ⟨rfl, hb3⟩))
            go_ret
            refine ⟨retB (good_none s xs ?_).symm, ?_⟩
            · rw [← E2.out]; exact hgt_no _ _ _ _ (by rw [HC.out]; simp)
            · exact (B.out.alloc B.out.size _).trans (hb3.mono (by have := B.out.size; simp; omega))
          · simp only [hc] at C
            have HC : Hid (can s x = true) := hc
            clear hc ht
            go_wp2_with (first | (go_at_call 88; refine (takes_any _ _).mono ?_; rintro e w' ⟨rfl, rfl⟩) | (go_at_call 89; refine (C _).mono ?_; rintro e w' ⟨rfl, hb3⟩))
            go_roundw
            case rel =>
              refine ⟨j + 1, h - tk x.op + 1, by go_num, by omega, ?_, by omega, ?_, ?_⟩
              · have := HT.out
                congr 1; omega
              · rw [Hid, ← E2.out]; exact (hgt_yes _ _ _ _ HC.out HT.out).symm
              · exact (B.out.alloc B.out.size _).trans (hb3.mono (by have := B.out.size; simp; omega))
            case measure => simp [intOf]; omega
        · have HT : Hid (¬ tk x.op ≤ h) := ht
          have q2 : (h : Int) - ((tk x.op : Nat) : Int) < 0 := by omega
          have := tk_le x.op
          clear ht
          go_wp2_with (first | (go_at_call 88; refine (takes_any _ _).mono ?_; rintro e w' ⟨rfl, rfl⟩))
          go_ret
          refine ⟨retB (good_none s xs ?_).symm, B.out.alloc B.out.size _⟩
          rw [← E2.out]; exact hgt_no _ _ _ _ (fun c => HT.out c.2)
      · have e : j = n := by omega
        have E2 : Hid (hgt s xs 0 = some h) := by
          rw [Hid, ← E.out, List.drop_of_length_le (by rw [← HN.out]; omega)]; rfl
        clear E HX
        go_wp2
        go_ret
        exact ⟨retB (good_some s xs h E2.out (by rw [← HN.out]; omega)).symm, B.out⟩
end Go.Proofs.YtdpbapoahfggeaaDoor
