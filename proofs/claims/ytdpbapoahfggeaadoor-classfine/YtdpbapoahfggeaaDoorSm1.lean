/- Contracts of the small functions: places, locals, kinds of instructions. -/
import Derived.Test.YtdpbapoahfggeaaDoorSpec
namespace Go.Proofs.YtdpbapoahfggeaaDoor
open Go.ChangeShapes Go.WideShapes Go.ChangeAt Go.RowKit
set_option linter.unusedVariables false
set_option linter.unusedSimpArgs false

/-- It answers whether P, and turns nothing old; N: it answers whether not. -/
def Ans (P : Prop) (w : World) (e : Ending) (w' : World) : Prop := ∃ q, e = .returned (.bool q) ∧ (q = true ↔ P) ∧ Below w.heap.size w w'
def AnsN (P : Prop) (w : World) (e : Ending) (w' : World) : Prop := ∃ q, e = .returned (.bool q) ∧ (q = false ↔ P) ∧ Below w.heap.size w w'
theorem exB {q : Bool} {P : Prop} {w w' : World} (h : q = true ↔ P) (hb : Below w.heap.size w w') : Ans P w (.returned (.bool q)) w' := ⟨q, rfl, h, hb⟩
theorem exN {q : Bool} {P : Prop} {w w' : World} (h : q = false ↔ P) (hb : Below w.heap.size w w') : AnsN P w (.returned (.bool q)) w' := ⟨q, rfl, h, hb⟩
theorem exNo {P : Prop} {w w' : World} (h : ¬ P) (hb : Below w.heap.size w w') : Ans P w (.returned (.bool false)) w' := ⟨false, rfl, ⟨(fun k => by cases k), (fun k => absurd k h)⟩, hb⟩
theorem exYes {P : Prop} {w w' : World} (h : P) (hb : Below w.heap.size w w') : Ans P w (.returned (.bool true)) w' := ⟨true, rfl, ⟨fun _ => h, fun _ => rfl⟩, hb⟩

theorem below2 (w : World) (o1 o2 : Obj) : Below w.heap.size w ((w.alloc o1).alloc o2) := ((Below.refl _ _).alloc (Nat.le_refl _) _).alloc (by simp) _
theorem below3 (w : World) (o1 o2 o3 : Obj) : Below w.heap.size w (((w.alloc o1).alloc o2).alloc o3) := (below2 w o1 o2).alloc (by simp; omega) _

set_option maxHeartbeats 400000 in
theorem place46_any (n : Int) (a : Option Addr) (m cap : Nat) (w : World) : Calls Tryd.prog 63 #[.int .i64 n, .slice a m cap] w fun e w' => e = .returned (.bool (isIn n m)) ∧ w' = w := by
  go_enter Tryd.func63, Tryd.ntmps63
  go_wp2
  all_goals
    go_ret
    refine ⟨retB ?_, rfl⟩
    first | (simp [isIn, *]; done) | (simp [isIn, *]; intros; omega)

set_option maxHeartbeats 400000 in
theorem place47_any (n : Int) (a : Option Addr) (m cap : Nat) (w : World) : Calls Tryd.prog 64 #[.int .i64 n, .slice a m cap] w fun e w' => e = .returned (.bool (isIn n m)) ∧ w' = w := by
  go_enter Tryd.func64, Tryd.ntmps64
  go_wp2
  all_goals
    go_ret
    refine ⟨retB ?_, rfl⟩
    first | (simp [isIn, *]; done) | (simp [isIn, *]; intros; omega)

set_option maxHeartbeats 400000 in
theorem place48_any (n : Int) (a : Option Addr) (m cap : Nat) (w : World) : Calls Tryd.prog 65 #[.int .i64 n, .slice a m cap] w fun e w' => e = .returned (.bool (isIn n m)) ∧ w' = w := by
  go_enter Tryd.func65, Tryd.ntmps65
  go_wp2
  all_goals
    go_ret
    refine ⟨retB ?_, rfl⟩
    first | (simp [isIn, *]; done) | (simp [isIn, *]; intros; omega)

set_option maxHeartbeats 400000 in
theorem place59_any (n : Int) (a : Option Addr) (m cap : Nat) (w : World) : Calls Tryd.prog 77 #[.int .i64 n, .slice a m cap] w fun e w' => e = .returned (.bool (isIn n m)) ∧ w' = w := by
  go_enter Tryd.func77, Tryd.ntmps77
  go_wp2
  all_goals
    go_ret
    refine ⟨retB ?_, rfl⟩
    first | (simp [isIn, *]; done) | (simp [isIn, *]; intros; omega)

set_option maxHeartbeats 400000 in
theorem place68_any (n : Int) (a : Option Addr) (m cap : Nat) (w : World) : Calls Tryd.prog 86 #[.int .i64 n, .slice a m cap] w fun e w' => e = .returned (.bool (isIn n m)) ∧ w' = w := by
  go_enter Tryd.func86, Tryd.ntmps86
  go_wp2
  all_goals
    go_ret
    refine ⟨retB ?_, rfl⟩
    first | (simp [isIn, *]; done) | (simp [isIn, *]; intros; omega)

set_option maxHeartbeats 400000 in
theorem place71_any (n : Int) (a : Option Addr) (m cap : Nat) (w : World) : Calls Tryd.prog 90 #[.int .i64 n, .slice a m cap] w fun e w' => e = .returned (.bool (isIn n m)) ∧ w' = w := by
  go_enter Tryd.func90, Tryd.ntmps90
  go_wp2
  all_goals
    go_ret
    refine ⟨retB ?_, rfl⟩
    first | (simp [isIn, *]; done) | (simp [isIn, *]; intros; omega)

set_option maxHeartbeats 400000 in
theorem in_any (n m : Int) (k : Nat) (hk : m = k) (w : World) : Calls Tryd.prog 20 #[.int .i64 n, .int .i64 m] w fun e w' => e = .returned (.bool (isIn n k)) ∧ w' = w := by
  subst hk
  go_enter Tryd.func20, Tryd.ntmps20
  go_wp2
  all_goals
    go_ret
    refine ⟨retB ?_, rfl⟩
    first | (simp [isIn, *]; done) | (simp [isIn, *]; intros; omega)

set_option maxHeartbeats 1000000 in
theorem localCan_any (a : Option Addr) (n cap : Nat) (gv tv ev cv : Value) (l : Loc) (w : World) :
    Calls Tryd.prog 46 #[.agg #[.slice a n cap, gv, tv, ev, cv], .agg #[.int .i64 l.kind, .int .i64 l.rc, .bool l.once]] w fun e w' => e = .returned (.bool (locOk n l)) ∧ Below w.heap.size w w' := by
  obtain ⟨k, r, o⟩ := l
  have C := hid (fun W => place46_any r a n cap W)
  go_enter Tryd.func46, Tryd.ntmps46
  go_wp2_with (go_at_call 63; refine Calls.mono (C.out _) ?_; rintro e w' ⟨rfl, rfl⟩)
  all_goals
    go_ret
    refine ⟨retB ?_, below2 _ _ _⟩
    first | (simp [locOk, *]; done) | (simp only [beq_iff_eq] at *; subst_vars; simp [locOk])

set_option maxHeartbeats 1000000 in
theorem rlocal_any (a : Option Addr) (n cap : Nat) (gv tv ev cv : Value) (l : Loc) (w : World) :
    Calls Tryd.prog 19 #[.agg #[.slice a n cap, gv, tv, ev, cv], .agg #[.int .i64 l.kind, .int .i64 l.rc, .bool l.once]] w fun e w' => e = .returned (.bool (locOk n l)) ∧ Below w.heap.size w w' := by
  obtain ⟨k, r, o⟩ := l
  have C := hid (fun W => in_any r n n rfl W)
  go_enter Tryd.func19, Tryd.ntmps19
  go_wp2_with (go_at_call 20; refine Calls.mono (C.out _) ?_; rintro e w' ⟨rfl, rfl⟩)
  all_goals
    go_ret
    refine ⟨retB ?_, below2 _ _ _⟩
    first | (simp [locOk, *]; done) | (simp [locOk]; omega)

set_option maxHeartbeats 1000000 in
theorem meet_any (a b : Sec) (w : World) :
    Calls Tryd.prog 57 #[.agg #[.int .i64 a.th, .int .i64 a.fr, .int .i64 a.to], .agg #[.int .i64 b.th, .int .i64 b.fr, .int .i64 b.to]] w fun e w' => e = .returned (.bool (meetB a b)) ∧ Below w.heap.size w w' := by
  go_enter Tryd.func57, Tryd.ntmps57
  go_wp2
  all_goals
    go_ret
    refine ⟨retB ?_, below2 _ _ _⟩
    first | (simp [meetB, *]; done) | (simp [meetB, *]; intros; omega)

set_option maxHeartbeats 1000000 in
theorem touches_any (op : Int) (w : World) : Calls Tryd.prog 71 #[.int .i64 op] w fun e w' => e = .returned (.bool (touchB op)) ∧ w' = w := by
  go_enter Tryd.func71, Tryd.ntmps71
  go_wp2
  all_goals
    go_ret
    refine ⟨retB ?_, rfl⟩
    simp only [beq_iff_eq, beq_eq_false_iff_ne, ne_eq] at *
    first | (subst_vars; rfl) | (simp [touchB]; omega)

theorem RowOf.at {α : Type} {cells : α → List Value} {s : Nat} {ok : World → α → Prop} {w : World} {v : Value} {l : List α} (h : RowOf cells s ok w v l) :
    ∃ a cap, v = .slice a l.length cap ∧ ∀ j, j < l.length → ∃ x b off, l[j]? = some x ∧ a = some ⟨b, off, none⟩ ∧ b < w.heap.size ∧ w.rangeAt b (off + j * s) (cells x) ∧ ok w x := by
  obtain ⟨a, cap, h1, h2, h3, h4, h5, h6⟩ := h
  refine ⟨a, cap, h1, fun j hj => ?_⟩
  have hs : l[j]? = some l[j] := by simp [hj]
  obtain ⟨b, off, e, hlt, hr, ho⟩ := h6 j _ hs
  exact ⟨_, b, off, hs, e, hlt, hr, ho⟩

theorem Loc.kept {w w' : World} {x : Loc} (h : x.okW w) (hb : Below w.heap.size w w') : x.okW w' := h
theorem Sec.kept {w w' : World} {x : Sec} (h : x.okW w) (hb : Below w.heap.size w w') : x.okW w' := h
theorem Ste.kept {w w' : World} {x : Ste} (h : x.okW w) (hb : Below w.heap.size w w') : x.okW w' := h

/-- The fields that an instruction has, as a value. -/
def shapeV (op : Int) : Value := .agg #[.bool (hasD op), .bool (hasS op), .bool (hasR op), .bool (hasN op), .bool (hasT op), .bool (hasI op), .bool (hasX op)]

theorem results_row_tmp {P : Program} {fn : Func} {p u : Tmp} {ty : TypeId} (h : fn.results = #[.cell p ty, .tmp u]) (tmps : Array Value) (w : World) (g : Nat) (t : TypeId) (cs : Array Value) (fr : Nat × Nat) (d : TypeDesc)
    (hp : tmps.getD p undef = .pointer (some ⟨g, 0, none⟩)) (hg : w.heap[g]? = some (.cells cs t fr))
    (hu : P.underlying ty = some d) (hd : (match d with | .struct _ | .array _ _ => true | _ => false) = true) (hi : (P.info? ty).map (·.size) = some cs.size) :
    (results fn tmps).run P w = .ok (.tuple #[.agg cs, tmps.getD u undef]) w := by
  rw [results_cell_tmp h, hp]
  simp [asAddr, run_loadVar_row (P := P) w g t ty cs fr d hg hu hd hi, Result.andThen]

set_option maxHeartbeats 1000000 in
theorem shape1 (w : World) : Calls Tryd.prog 70 #[.int .i64 1] w fun e w' => e = .returned (.tuple #[shapeV 1, .bool true]) ∧ Below w.heap.size w w' := by
  go_enter Tryd.func70, Tryd.ntmps70
  go_wp2
  try simp only [Exit.inBlock, Exit.then]
  refine bodyPost_ret (results_row_tmp (P := Tryd.prog) rfl _ _ w.heap.size _ _ _ _ rfl (by first | exact heap_alloc_new _ _ | skip) Tryd.underlying119 rfl (by kernel_rfl)) rfl ?_
  exact ⟨rfl, (Below.refl _ _).alloc (Nat.le_refl _) _⟩


end Go.Proofs.YtdpbapoahfggeaaDoor
