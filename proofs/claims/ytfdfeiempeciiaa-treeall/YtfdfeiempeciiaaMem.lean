/- Rows of structs in memory, and laws for loads and stores of whole structs. -/
import Derived.Test.YtfdfeiempeciiaaRows
import Derived.WalkKit
import Derived.ProofKit
import Derived.OpenShut
import Derived.WalkSpells
import Derived.WalkLawsBesides
import Derived.Below
import Derived.Deep.MidRow
import Derived.Deep.AppendLies
namespace Go.Proofs.Ytfdfeiempeciiaa
open Go.ChangeShapes Go.WideShapes Go.ChangeAt Go.RowKit
set_option linter.unusedVariables false

theorem Below.over {w w1 w' : World} (h : Below w.heap.size w w1) (k : Below w1.heap.size w1 w') : Below w.heap.size w w' := h.trans (k.mono h.size)
theorem below_two (w : World) (o1 o2 : Obj) : Below w.heap.size w ((w.alloc o1).alloc o2) := ((Below.refl _ _).alloc (Nat.le_refl _) _).alloc (by simp) _
theorem hid {p : Prop} (h : p) : Hid p := h
theorem ret_bool {a b : Bool} (h : a = b) : Ending.returned (.bool a) = .returned (.bool b) := by rw [h]

/-- A struct type of n cells. -/
def AggT (ty : TypeId) (n : Nat) : Prop := ∃ d, Try.prog.underlying ty = some d ∧ d.isRow = true ∧ (Try.prog.info? ty).map (·.size) = some n

theorem agg46 : AggT 46 9 := ⟨_, Try.underlying46, rfl, by kernel_rfl⟩
theorem agg48 : AggT 48 14 := ⟨_, Try.underlying48, rfl, by kernel_rfl⟩
theorem agg50 : AggT 50 27 := ⟨_, Try.underlying50, rfl, by kernel_rfl⟩
theorem agg52 : AggT 52 58 := ⟨_, Try.underlying52, rfl, by kernel_rfl⟩
theorem agg43 : AggT 43 2 := ⟨_, Try.underlying43, rfl, by kernel_rfl⟩
theorem agg29 : AggT 29 4 := ⟨_, Try.underlying29, rfl, by kernel_rfl⟩
theorem agg37 : AggT 37 3 := ⟨_, Try.underlying37, rfl, by kernel_rfl⟩
theorem agg58 : AggT 58 5 := ⟨_, Try.underlying58, rfl, by kernel_rfl⟩
theorem agg76 : AggT 76 4 := ⟨_, Try.underlying76, rfl, by kernel_rfl⟩
theorem agg82 : AggT 82 5 := ⟨_, Try.underlying82, rfl, by kernel_rfl⟩

section
variable {ops : Array Oper} {rest : List Oper} {op : Oper} {a : Act} {w : World} {Q : Exit → Act → World → Prop}

theorem wl_load (ty : TypeId) (x : Operand) (ho : op.op = .load ty x) (hw : Region.wanted op (yielded ops a.tmps) = true)
    (b o : Nat) (hx : a.eval x = .pointer (some ⟨b, o, none⟩)) (cs : List Value) (hc : w.rangeAt b o cs) (hT : AggT ty cs.length)
    (h : wpList Try.prog ops Q rest (a.put op.dst (.agg cs.toArray)) w) : wpList Try.prog ops Q (op :: rest) a w := by
  obtain ⟨d, h1, h2, h3⟩ := hT
  refine wpList_step fun K hK => ?_
  rw [if_pos hw]
  exact wp_load_mid ty x ho b o hx cs d hc h1 h2 h3 (hK _ _ h)

theorem setRow_alloc (w0 : World) (old cs : Array Value) (t : TypeId) : (w0.alloc (.cells old t)).setRow w0.heap.size cs = w0.alloc (.cells cs t) := by
  unfold World.setRow World.alloc
  congr 1
  apply Array.ext
  · simp
  · intro k h1 h2
    simp only [Array.getElem_modify, Array.getElem_push]
    simp at h1
    by_cases hk : k < w0.heap.size
    · simp [hk, show w0.heap.size ≠ k by omega]
    · simp [show w0.heap.size = k by omega]

/-- A struct goes into the variable that was made just now. -/
theorem wl_store_new (ty : TypeId) (x y : Operand) (ho : op.op = .store ty x y) (hw : Region.wanted op (yielded ops a.tmps) = true)
    (w0 : World) (t : TypeId) (old : Array Value) (hW : w = w0.alloc (.cells old t)) (b : Nat) (hb : w0.heap.size = b) (hx : a.eval x = .pointer (some ⟨b, 0, none⟩)) (cs : List Value) (hy : a.eval y = .agg cs.toArray)
    (hT : AggT ty cs.length) (hs : old.size = cs.length) (h1 : ∀ v ∈ cs, v.oneCell' = true)
    (h : wpList Try.prog ops Q rest (a.put op.dst undef) (w0.alloc (.cells cs.toArray t))) : wpList Try.prog ops Q (op :: rest) a w := by
  obtain ⟨d, _, _, h3⟩ := hT
  subst hW
  subst hb
  refine wpList_step fun K hK => ?_
  rw [if_pos hw]
  refine wp_store_row ty x y ho w0.heap.size cs.toArray hx hy t old (heap_alloc_new _ _) (by simpa using h3) (by simpa using hs) (all_oneCell_toArray h1) ?_
  rw [setRow_alloc]
  exact hK _ _ h
end

/-- A row of n structs of s cells each: nil; or a block of F that holds these cells. -/
def RowAt (w : World) (F : Nat → Prop) (s : Nat) (v : Value) (n : Nat) (xs : List Value) : Prop :=
  (xs.length = n * s ∧ n < 140737488355328) ∧ ((v = .slice none 0 0 ∧ n = 0) ∨ ∃ g cap cur e, v = .slice (some ⟨g, 0, none⟩) n cap ∧ F g ∧ n ≤ cap ∧ w.heap[g]? = some (.cells cur e (0, 0)) ∧ cur.toList.take (n * s) = xs)

theorem RowAt.nil (w : World) (F : Nat → Prop) (s : Nat) : RowAt w F s (.slice none 0 0) 0 [] := ⟨by simp, .inl ⟨rfl, rfl⟩⟩
theorem RowAt.mono {w : World} {F G : Nat → Prop} {s : Nat} {v : Value} {n : Nat} {xs : List Value} (h : RowAt w F s v n xs) (hs : ∀ g, F g → g < w.heap.size → G g) : RowAt w G s v n xs := by
  refine ⟨h.1, ?_⟩
  rcases h.2 with h2 | ⟨g, cap, cur, e, hv, hF, hn, hg, ht⟩
  · exact .inl h2
  · exact .inr ⟨g, cap, cur, e, hv, hs g hF (Array.getElem?_eq_some_iff.1 hg).1, hn, hg, ht⟩
theorem RowAt.keep {w w' : World} {F : Nat → Prop} {s : Nat} {v : Value} {n : Nat} {xs : List Value} (h : RowAt w F s v n xs) (hk : ∀ g, F g → g < w.heap.size → w'.heap[g]? = w.heap[g]?) : RowAt w' F s v n xs := by
  refine ⟨h.1, ?_⟩
  rcases h.2 with h2 | ⟨g, cap, cur, e, hv, hF, hn, hg, ht⟩
  · exact .inl h2
  · exact .inr ⟨g, cap, cur, e, hv, hF, hn, (hk g hF (Array.getElem?_eq_some_iff.1 hg).1).trans hg, ht⟩
theorem RowAt.kept {w w' : World} {F : Nat → Prop} {s : Nat} {v : Value} {n : Nat} {xs : List Value} (h : RowAt w F s v n xs) (k : Below w.heap.size w w') : RowAt w' F s v n xs := h.keep (fun g _ hg => k.block g hg)
theorem RowAt.one {w : World} {F : Nat → Prop} {s : Nat} {v : Value} {n : Nat} {xs : List Value} (h : RowAt w F s v n xs) : v.oneCell' = true := by
  rcases h.2 with ⟨rfl, _⟩ | ⟨g, cap, cur, e, rfl, _⟩ <;> rfl
theorem RowAt.form {w : World} {F : Nat → Prop} {s : Nat} {v : Value} {n : Nat} {xs : List Value} (h : RowAt w F s v n xs) : ∃ p cap, v = .slice p n cap := by
  rcases h.2 with ⟨rfl, rfl⟩ | ⟨g, cap, cur, e, rfl, _⟩
  · exact ⟨_, _, rfl⟩
  · exact ⟨_, _, rfl⟩
theorem RowAt.of_owns {w : World} {base : Nat} {e : TypeId} {s : Nat} {v : Value} {n : Nat} {xs : List Value} {F : Nat → Prop} (h : w.ownsRow base e s v n xs) (hn : n < 140737488355328) (hF : ∀ g, v.ownBlock = some g → F g) : RowAt w F s v n xs := by
  refine ⟨⟨h.1, hn⟩, ?_⟩
  rcases h.2 with h2 | ⟨g, cap, cur, hv, hb, hg, hn, _, _, ht⟩
  · exact .inl h2
  · exact .inr ⟨g, cap, cur, e, hv, hF g (by rw [hv]; rfl), hn, hg, ht⟩

theorem flat_len {α : Type} (f : α → List Value) (s : Nat) (hs : ∀ x, (f x).length = s) (l : List α) : (l.flatMap f).length = l.length * s := by
  induction l with
  | nil => simp
  | cons a l ih => simp only [List.flatMap_cons, List.length_append, ih, hs, List.length_cons]; rw [Nat.add_mul]; omega
theorem flat_get {α : Type} (f : α → List Value) (s : Nat) (hs : ∀ x, (f x).length = s) (l : List α) (k : Nat) (x : α) (hk : l[k]? = some x) (j : Nat) (v : Value) (hj : (f x)[j]? = some v) : (l.flatMap f)[k * s + j]? = some v := by
  induction l generalizing k with
  | nil => simp at hk
  | cons a l ih =>
    have hjs : j < s := by
      have := (List.getElem?_eq_some_iff.1 hj).1
      rw [hs] at this
      exact this
    simp only [List.flatMap_cons, List.getElem?_append, hs]
    cases k with
    | zero =>
      simp at hk
      subst hk
      rw [if_pos (by omega)]
      simpa using hj
    | succ k =>
      have e : (k + 1) * s + j - s = k * s + j := by rw [Nat.add_mul]; omega
      rw [if_neg (by rw [Nat.add_mul]; omega), e]
      exact ih k (by simpa using hk)

/-- An element of a row lies where it should. -/
theorem RowAt.elem {α : Type} {f : α → List Value} {s : Nat} (hs : ∀ x, (f x).length = s) {w : World} {F : Nat → Prop} {v : Value} {l : List α} (h : RowAt w F s v l.length (l.flatMap f)) {k : Nat} {x : α} (hk : l[k]? = some x) :
    ∃ g cap, v = .slice (some ⟨g, 0, none⟩) l.length cap ∧ F g ∧ g < w.heap.size ∧ w.rangeAt g (k * s) (f x) := by
  have hlt : k < l.length := (List.getElem?_eq_some_iff.1 hk).1
  rcases h.2 with ⟨_, h2⟩ | ⟨g, cap, cur, e, hv, hF, hn, hg, ht⟩
  · omega
  · refine ⟨g, cap, hv, hF, (Array.getElem?_eq_some_iff.1 hg).1, fun j u hu => ?_⟩
    rw [cell_of_row w g (k * s + j) cur e _ hg]
    have := flat_get f s hs l k x hk j u hu
    rw [← ht, List.getElem?_take] at this
    split at this
    · simpa using this
    · simp at this

theorem rangeAt_new (w : World) (cs : List Value) (t : TypeId) : (w.alloc (.cells cs.toArray t)).rangeAt w.heap.size 0 cs := fun j v hv => by
  rw [Nat.zero_add, cell_of_row _ _ j _ _ _ (heap_alloc_new w _)]
  simpa using hv
theorem rangeAt_sub {w : World} {b o : Nat} {cs ds : List Value} (h : w.rangeAt b o cs) (k : Nat) (hd : ∀ j v, ds[j]? = some v → cs[k + j]? = some v) : w.rangeAt b (o + k) ds := fun j v hv => by
  rw [Nat.add_assoc]
  exact h _ _ (hd j v hv)
theorem rangeAt_kept {w w' : World} {b o : Nat} {cs : List Value} (h : w.rangeAt b o cs) (k : Below w.heap.size w w') : w'.rangeAt b o cs := fun j v hv => by
  have := h j v hv
  rw [k.cell (World.block_lt_of_cell? w _ this)]
  exact this

/-- Two structs in boxes of their own, made one behind the other. -/
theorem box2 {w w' : World} {xs ys : List Value} {t u : TypeId} (hb : Below ((w.alloc (.cells xs.toArray t)).alloc (.cells ys.toArray u)).heap.size ((w.alloc (.cells xs.toArray t)).alloc (.cells ys.toArray u)) w') :
    w'.rangeAt w.heap.size 0 xs ∧ w'.rangeAt (w.heap.size + 1) 0 ys := by
  have h1 := rangeAt_kept (rangeAt_kept (rangeAt_new w xs t) ((Below.refl _ _).alloc (Nat.le_refl _) (.cells ys.toArray u))) hb
  have h2 := rangeAt_kept (rangeAt_new (w.alloc (.cells xs.toArray t)) ys u) hb
  simp only [World.size_alloc] at h2
  exact ⟨h1, h2⟩
theorem range_cell {w : World} {b : Nat} {cs : List Value} (h : w.rangeAt b 0 cs) (j : Nat) {v : Value} (hj : cs[j]? = some v) : w.cell? ⟨b, j, none⟩ = some v := by
  have := h j v hj
  rwa [Nat.zero_add] at this
theorem range_part {w : World} {b : Nat} {cs : List Value} (h : w.rangeAt b 0 cs) (k : Nat) (ds : List Value) (hd : (cs.drop k).take ds.length = ds) : w.rangeAt b k ds := fun j v hv => by
  refine range_cell h (k + j) ?_
  rw [← hd, List.getElem?_take] at hv
  split at hv
  · rw [List.getElem?_drop] at hv
    exact hv
  · simp at hv

/-- Two rows are alike, element by element. -/
def eqL {α β : Type} (p : α → β → Bool) : List α → List β → Bool
  | [], [] => true
  | x :: r, y :: s => p x y && eqL p r s
  | _, _ => false

theorem eqL_len {α β : Type} (p : α → β → Bool) : ∀ (l : List α) (m : List β), l.length ≠ m.length → eqL p l m = false
  | [], [], h => absurd rfl h
  | [], _ :: _, _ => rfl
  | _ :: _, [], _ => rfl
  | x :: r, y :: s, h => by
    simp only [eqL, eqL_len p r s (by simpa using h), Bool.and_false]
theorem eqL_all {α β : Type} (p : α → β → Bool) : ∀ (l : List α) (m : List β), l.length = m.length → (∀ (i : Nat) (x : α) (y : β), l[i]? = some x → m[i]? = some y → p x y = true) → eqL p l m = true
  | [], [], _, _ => rfl
  | [], _ :: _, h, _ => by simp at h
  | _ :: _, [], h, _ => by simp at h
  | x :: r, y :: s, h, k => by
    simp only [eqL]
    rw [k 0 x y rfl rfl, eqL_all p r s (by simpa using h) (fun i x y hx hy => k (i + 1) x y (by simpa using hx) (by simpa using hy))]
    rfl
theorem eqL_not {α β : Type} (p : α → β → Bool) : ∀ (l : List α) (m : List β) (i : Nat) (x : α) (y : β), l[i]? = some x → m[i]? = some y → p x y = false → eqL p l m = false
  | [], _, i, x, y, h, _, _ => by simp at h
  | _ :: _, [], i, x, y, _, h, _ => by simp at h
  | a :: r, b :: s, 0, x, y, h, k, q => by
    simp at h k
    subst h k
    simp [eqL, q]
  | a :: r, b :: s, i + 1, x, y, h, k, q => by
    simp only [eqL, eqL_not p r s i x y (by simpa using h) (by simpa using k) q, Bool.and_false]
end Go.Proofs.Ytfdfeiempeciiaa
