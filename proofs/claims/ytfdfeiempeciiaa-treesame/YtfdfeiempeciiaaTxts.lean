/- Rows of texts that grow. -/
import Derived.Test.YtfdfeiempeciiaaRefSame
import Derived.Test.YtfdfeiempeciiaaNames
import Derived.Test.YtfdfeiempeciiaaApp
import Derived.Deep.RegionHeld3
import Derived.Deep.DrawnRows
namespace Go.Proofs.Ytfdfeiempeciiaa
open Go.ChangeShapes Go.WideShapes Go.ChangeAt Go.RowKit
set_option linter.unusedVariables false

/-- A row of texts of a call's own. -/
structure Txts (w wr : World) (v : Value) (l : List ByteArray) : Prop where
  own : wr.ownsRow w.heap.size 9 1 v l.length (l.flatMap strC)
  bel : Below w.heap.size w wr
theorem info9z : (Try.prog.info? 9).map (fun i => (i.zero, i.size, i.bytes)) = some (some (.string { data := #[] }), 1, 16) := by kernel_rfl
theorem strs_one (l : List ByteArray) : ∀ x ∈ l.flatMap strC, x.oneCell' = true := fun x hx => by
  obtain ⟨s, hs, hx⟩ := List.mem_flatMap.1 hx
  simp only [strC, List.mem_cons, List.not_mem_nil, or_false] at hx
  subst hx
  rfl
theorem Txts.row {w wr : World} {v : Value} {l : List ByteArray} (h : Txts w wr v l) (hl : l.length ≤ 2000000) : strsAt wr (fun _ => True) v l := RowAt.of_owns h.own (by omega) (fun _ _ => trivial)
theorem below_drew {B : Nat} {a w : World} (h : Below B a w) : Below B a w.drew := ⟨h.os, h.tape, h.output, h.size, h.block⟩
theorem below_undrew {w w' : World} (h : Below w.drew.heap.size w.drew w') : Below w.heap.size w w' := ⟨h.os, h.tape, h.output, h.size, h.block⟩
theorem Txts.keep {w wr w1 : World} {v : Value} {l : List ByteArray} (h : Txts w wr v l) (b : Below wr.heap.size wr w1) : Txts w w1 v l := ⟨own_keep h.own (fun g _ hl => b.block g hl), Below.over h.bel b⟩
theorem Txts.app {w w1 w2 : World} {v v' : Value} {l m : List ByteArray} (h : Txts w w1 v l) (own2 : w2.ownsRow w.heap.size 9 1 v' (l.length + m.length) (l.flatMap strC ++ m.flatMap strC)) (g2 : w1.grownBy w2 v.ownBlock) : Txts w w2 v' (l ++ m) :=
  ⟨by simpa using own2, h.bel.trans ((Touch.of_grown (T := fun b => w.heap.size ≤ b) g2 (fun b hb => (own_lt h.own hb).1)).below (fun b hb => ⟨by have := h.bel.size; omega, by omega⟩))⟩
/-- A row of texts made just now. -/
theorem Txts.made {w wr : World} (l : List ByteArray) (h : Below w.heap.size w wr) (hl : l.length ≤ 1000) : Txts w (wr.alloc (.cells (l.flatMap strC).toArray 9)) (.slice (some ⟨wr.heap.size, 0, none⟩) l.length l.length) l :=
  ⟨⟨by simp [flat_len strC 1 (fun _ => rfl)], .inr ⟨wr.heap.size, l.length, (l.flatMap strC).toArray, rfl, h.size, heap_alloc_new _ _, Nat.le_refl _, by simp only [maxLen]; omega, by simp [flat_len strC 1 (fun _ => rfl)], by simp only [Nat.mul_one]; exact List.take_of_length_le (by simp [flat_len strC 1 (fun _ => rfl)])⟩⟩, h.alloc h.size _⟩

/-- A row grew: in its place, or into a new block. -/
structure Grew (w w' : World) (v v' : Value) : Prop where
  by_ : w.grownBy w' v.ownBlock
  blk : v'.ownBlock = v.ownBlock ∨ v'.ownBlock = some w.heap.size
theorem Grew.var {w w' : World} {v v' : Value} {b : Nat} {cs : List Value} {t : TypeId} (h : Grew w w' v v') (hb : VarAt w b cs t) (hv : v.ownBlock ≠ some b) : VarAt w' b cs t := (h.by_.block b hb.lt (fun e => hv e.symm)).trans hb
theorem Grew.far {w w' : World} {v v' : Value} {b : Nat} (h : Grew w w' v v') (hb : b < w.heap.size) (hv : v.ownBlock ≠ some b) : v'.ownBlock ≠ some b := fun e => by
  rcases h.blk with k | k
  · exact hv (k ▸ e)
  · rw [k] at e
    simp at e
    omega
section
variable {w : World} {ops : Array Oper} {rest : List Oper} {o : Oper} {a : Act} {Q : Exit → Act → World → Prop}
/-- out = append(out, texts...) -/
theorem wl_app {w0 : World} (hgd : o.guard = none) (s x : Operand) (ho : o.op = .call { callee := .builtin .append, args := #[s, x], argTypes := #[33, 33] })
    (v : Value) (hs : a.eval s = v) (l : List ByteArray) (hv : Txts w0 w v l) (u : Value) (hx : a.eval x = u) (F : Nat → Prop) (m : List ByteArray) (hu : strsAt w F u m) (hn : l.length + m.length ≤ 2000000)
    (h : ∀ p c w', Txts w0 w' (.slice p (l.length + m.length) c) (l ++ m) → Grew w w' v (.slice p (l.length + m.length) c) → wpList Try.prog ops Q rest (a.put o.dst (.slice p (l.length + m.length) c)) w') : wpList Try.prog ops Q (o :: rest) a w := by
  refine wl_append_row hgd s x 33 ho w0.heap.size 9 _ 1 16 Try.underlying33 info9z rfl (by omega) v hs l.length _ hv.own u hx F m.length _ hu (strs_one m) hn (by omega) hv.bel.size ?_
  intro v' w' h2 h3 h4
  obtain ⟨p, c, rfl⟩ := own_slice h2
  exact h p c w' (hv.app h2 h3) ⟨h3, h4⟩
end
section
variable {w : World} {ops : Array Oper} {o : Oper} {a : Act} {K : Act → World → Prop} {Q : Exit → Act → World → Prop} {E : Prop}
theorem step_app {w0 : World} (hgd : o.guard = none) (s x : Operand) (ho : o.op = .call { callee := .builtin .append, args := #[s, x], argTypes := #[33, 33] })
    (v : Value) (hs : a.eval s = v) (l : List ByteArray) (hv : Txts w0 w v l) (u : Value) (hx : a.eval x = u) (F : Nat → Prop) (m : List ByteArray) (hu : strsAt w F u m) (hn : l.length + m.length ≤ 2000000)
    (h : ∀ p c w', Txts w0 w' (.slice p (l.length + m.length) c) (l ++ m) → Grew w w' v (.slice p (l.length + m.length) c) → K (a.put o.dst (.slice p (l.length + m.length) c)) w') : if Region.wanted o (yielded ops a.tmps) = true then Oper.wp Try.prog o a w K Q else E := by
  refine step_append_row hgd s x 33 ho w0.heap.size 9 _ 1 16 Try.underlying33 info9z rfl (by omega) v hs l.length _ hv.own u hx F m.length _ hu (strs_one m) hn (by omega) hv.bel.size ?_
  intro v' w' h2 h3 h4
  obtain ⟨p, c, rfl⟩ := own_slice h2
  exact h p c w' (hv.app h2 h3) ⟨h3, h4⟩
end
/-- out = append(out, texts...), the new row under names of its own. -/
theorem wl_app2 {w0 w : World} {ops : Array Oper} {rest : List Oper} {o : Oper} {a : Act} {Q : Exit → Act → World → Prop} (hgd : o.guard = none) (s x : Operand) (ho : o.op = .call { callee := .builtin .append, args := #[s, x], argTypes := #[33, 33] })
    (v : Value) (hs : a.eval s = v) (l : List ByteArray) (hv : Txts w0 w v l) (u : Value) (hx : a.eval x = u) (F : Nat → Prop) (m : List ByteArray) (hu : strsAt w F u m) (hn : l.length + m.length ≤ 2000000)
    (h : ∀ p c w' (n' : Nat) (L' : List ByteArray), Hid (L' = l ++ m) → Hid (Txts w0 w' (.slice p n' c) L') → Hid (Grew w w' v (.slice p n' c)) → wpList Try.prog ops Q rest (a.put o.dst (.slice p n' c)) w') : wpList Try.prog ops Q (o :: rest) a w :=
  wl_app hgd s x ho v hs l hv u hx F m hu hn fun p c w' h1 h2 => h p c w' _ _ (hid rfl) (hid h1) (hid h2)
theorem step_app2 {w0 w : World} {ops : Array Oper} {o : Oper} {a : Act} {K : Act → World → Prop} {Q : Exit → Act → World → Prop} {E : Prop} (hgd : o.guard = none) (s x : Operand) (ho : o.op = .call { callee := .builtin .append, args := #[s, x], argTypes := #[33, 33] })
    (v : Value) (hs : a.eval s = v) (l : List ByteArray) (hv : Txts w0 w v l) (u : Value) (hx : a.eval x = u) (F : Nat → Prop) (m : List ByteArray) (hu : strsAt w F u m) (hn : l.length + m.length ≤ 2000000)
    (h : ∀ p c w' (n' : Nat) (L' : List ByteArray), Hid (L' = l ++ m) → Hid (Txts w0 w' (.slice p n' c) L') → Hid (Grew w w' v (.slice p n' c)) → K (a.put o.dst (.slice p n' c)) w') : if Region.wanted o (yielded ops a.tmps) = true then Oper.wp Try.prog o a w K Q else E :=
  step_app hgd s x ho v hs l hv u hx F m hu hn fun p c w' h1 h2 => h p c w' _ _ (hid rfl) (hid h1) (hid h2)
/-- A row that grows beside a box. -/
structure Beside (w wr : World) (v : Value) (l : List ByteArray) (b : Nat) (cs : List Value) (t : TypeId) : Prop where
  txts : Txts w wr v l
  box : VarAt wr b cs t
  far : v.ownBlock ≠ some b
theorem Beside.keep {w wr w1 : World} {v : Value} {l : List ByteArray} {b : Nat} {cs : List Value} {t : TypeId} (h : Beside w wr v l b cs t) (k : Below wr.heap.size wr w1) : Beside w w1 v l b cs t := ⟨h.txts.keep k, h.box.kept k, h.far⟩
theorem Beside.grew {w wr w1 : World} {v v' : Value} {l l' : List ByteArray} {b : Nat} {cs : List Value} {t : TypeId} (h : Beside w wr v l b cs t) (k : Txts w w1 v' l') (g : Grew wr w1 v v') : Beside w w1 v' l' b cs t := ⟨k, g.var h.box h.far, g.far h.box.lt h.far⟩
theorem take_flat {α β : Type} (f : α → List β) (l : List α) (k : Nat) (x : α) (h : l[k]? = some x) : (l.take (k + 1)).flatMap f = (l.take k).flatMap f ++ f x := by
  have hk := (List.getElem?_eq_some_iff.1 h).1
  rw [List.take_add_one, h]
  simp
theorem take_len {α β : Type} (f : α → List β) (l : List α) (k : Nat) (x : α) (h : l[k]? = some x) : ((l.take k).flatMap f).length + (f x).length ≤ (l.flatMap f).length := by
  have e : l.flatMap f = (l.take (k + 1)).flatMap f ++ (l.drop (k + 1)).flatMap f := by rw [← List.flatMap_append, List.take_append_drop]
  rw [e, take_flat f l k x h]
  simp only [List.length_append]
  omega
end Go.Proofs.Ytfdfeiempeciiaa
