/- Two rows that grow beside each other: statements, and whole numbers. -/
import Derived.Test.YtfdfeiempeciiaaJoinC
namespace Go.Proofs.Ytfdfeiempeciiaa
open Go.ChangeShapes Go.WideShapes Go.ChangeAt Go.RowKit
set_option linter.unusedVariables false

def intC (n : Int) : List Value := [.int .i64 n]
theorem info3z : (Try.prog.info? 3).map (fun i => (i.zero, i.size, i.bytes)) = some (some (.int .i64 0), 1, 8) := by kernel_rfl
structure Two (w wr : World) (v1 v2 : Value) (L1 : List St) (L2 : List Int) : Prop where
  o1 : wr.ownsRow w.heap.size 52 58 v1 L1.length (L1.flatMap St.cells)
  o2 : wr.ownsRow w.heap.size 3 1 v2 L2.length (L2.flatMap intC)
  bel : Below w.heap.size w wr
  apart : ∀ b, v1.ownBlock = some b → v2.ownBlock ≠ some b
/-- A box beside both. -/
structure Side (wr : World) (v1 v2 : Value) (b : Nat) (cs : List Value) (t : TypeId) : Prop where
  box : VarAt wr b cs t
  far1 : v1.ownBlock ≠ some b
  far2 : v2.ownBlock ≠ some b
theorem Two.keep {w wr w1 : World} {v1 v2 : Value} {L1 : List St} {L2 : List Int} (h : Two w wr v1 v2 L1 L2) (k : Below wr.heap.size wr w1) : Two w w1 v1 v2 L1 L2 :=
  ⟨own_keep h.o1 (fun g _ hl => k.block g hl), own_keep h.o2 (fun g _ hl => k.block g hl), Below.over h.bel k, h.apart⟩
theorem Side.keep {wr w1 : World} {v1 v2 : Value} {b : Nat} {cs : List Value} {t : TypeId} (h : Side wr v1 v2 b cs t) (k : Below wr.heap.size wr w1) : Side w1 v1 v2 b cs t := ⟨h.box.kept k, h.far1, h.far2⟩
theorem Two.grew1 {w w1 w2 : World} {v1 v2 v' : Value} {L1 m : List St} {L2 : List Int} (h : Two w w1 v1 v2 L1 L2) (own2 : w2.ownsRow w.heap.size 52 58 v' (L1.length + m.length) (L1.flatMap St.cells ++ m.flatMap St.cells)) (g : Grew w1 w2 v1 v') : Two w w2 v' v2 (L1 ++ m) L2 := by
  refine ⟨by simpa using own2, h.o2.kept g.by_ ?_, h.bel.trans ((Touch.of_grown (T := fun b => w.heap.size ≤ b) g.by_ (fun b hb => (own_lt h.o1 hb).1)).below (fun b hb => ⟨by have := h.bel.size; omega, by omega⟩)), ?_⟩
  · cases hv : v2.ownBlock with
    | none => exact .inl rfl
    | some b => exact .inr (fun e => h.apart b e.symm hv)
  · intro b hb e
    rcases g.blk with k | k
    · exact h.apart b (k ▸ hb) e
    · rw [k] at hb
      have := own_lt h.o2 e
      simp at hb
      omega
theorem Two.grew2 {w w1 w2 : World} {v1 v2 v' : Value} {L1 : List St} {L2 m : List Int} (h : Two w w1 v1 v2 L1 L2) (own2 : w2.ownsRow w.heap.size 3 1 v' (L2.length + m.length) (L2.flatMap intC ++ m.flatMap intC)) (g : Grew w1 w2 v2 v') : Two w w2 v1 v' L1 (L2 ++ m) := by
  refine ⟨h.o1.kept g.by_ ?_, by simpa using own2, h.bel.trans ((Touch.of_grown (T := fun b => w.heap.size ≤ b) g.by_ (fun b hb => (own_lt h.o2 hb).1)).below (fun b hb => ⟨by have := h.bel.size; omega, by omega⟩)), ?_⟩
  · cases hv : v1.ownBlock with
    | none => exact .inl rfl
    | some b => exact .inr (fun e => h.apart b hv e.symm)
  · intro b hb e
    rcases g.blk with k | k
    · exact h.apart b hb (k ▸ e)
    · rw [k] at e
      have := own_lt h.o1 hb
      simp at e
      omega
theorem Side.grew1 {w1 w2 : World} {v1 v2 v' : Value} {b : Nat} {cs : List Value} {t : TypeId} (h : Side w1 v1 v2 b cs t) (g : Grew w1 w2 v1 v') : Side w2 v' v2 b cs t := ⟨g.var h.box h.far1, g.far h.box.lt h.far1, h.far2⟩
theorem Side.grew2 {w1 w2 : World} {v1 v2 v' : Value} {b : Nat} {cs : List Value} {t : TypeId} (h : Side w1 v1 v2 b cs t) (g : Grew w1 w2 v2 v') : Side w2 v1 v' b cs t := ⟨g.var h.box h.far2, h.far1, g.far h.box.lt h.far2⟩
theorem Two.side {w wr : World} {v1 v2 : Value} {L1 : List St} {L2 : List Int} (h : Two w wr v1 v2 L1 L2) (cs : List Value) (t : TypeId) : Side (wr.alloc (.cells cs.toArray t)) v1 v2 wr.heap.size cs t :=
  ⟨VarAt.new wr cs t, fun e => by have := own_lt h.o1 e; omega, fun e => by have := own_lt h.o2 e; omega⟩
theorem ints_one (l : List Int) : ∀ x ∈ l.flatMap intC, x.oneCell' = true := fun x hx => by
  obtain ⟨s, hs, hx⟩ := List.mem_flatMap.1 hx
  simp only [intC, List.mem_cons, List.not_mem_nil, or_false] at hx
  subst hx
  rfl
theorem sts_one {w : World} {F : Nat → Prop} {l : List St} (h : ∀ s ∈ l, s.ok w F) : ∀ x ∈ l.flatMap St.cells, x.oneCell' = true := fun x hx => by
  obtain ⟨s, hs, hx⟩ := List.mem_flatMap.1 hx
  exact (h s hs).hd.one x hx

section
variable {w0 w : World} {ops : Array Oper} {rest : List Oper} {o : Oper} {a : Act} {Q : Exit → Act → World → Prop}
theorem wl_two1 (hgd : o.guard = none) (s x : Operand) (ho : o.op = .call { callee := .builtin .append, args := #[s, x], argTypes := #[35, 35] })
    (v1 v2 : Value) (hs : a.eval s = v1) (L1 : List St) (L2 : List Int) (h2 : Two w0 w v1 v2 L1 L2) (u : Value) (hx : a.eval x = u) (F : Nat → Prop) (m : List St) (hu : RowAt w F 58 u m.length (m.flatMap St.cells)) (h1 : ∀ x ∈ m.flatMap St.cells, x.oneCell' = true) (hn : L1.length + m.length ≤ 2000000)
    (h : ∀ p c w' (n' : Nat) (L' : List St), Hid (L' = L1 ++ m) → Hid (Two w0 w' (.slice p n' c) v2 L' L2) → Hid (Grew w w' v1 (.slice p n' c)) → wpList Try.prog ops Q rest (a.put o.dst (.slice p n' c)) w') : wpList Try.prog ops Q (o :: rest) a w := by
  refine wl_append_row hgd s x 35 ho w0.heap.size 52 _ 58 688 Try.underlying35 info52 rfl (by omega) v1 hs L1.length _ h2.o1 u hx F m.length _ hu h1 hn (by omega) h2.bel.size ?_
  intro v' w' k1 k2 k3
  obtain ⟨p, c, rfl⟩ := own_slice k1
  exact h p c w' _ _ (hid rfl) (hid (h2.grew1 k1 ⟨k2, k3⟩)) (hid ⟨k2, k3⟩)
theorem wl_two2 (hgd : o.guard = none) (s x : Operand) (ho : o.op = .call { callee := .builtin .append, args := #[s, x], argTypes := #[22, 22] })
    (v1 v2 : Value) (hs : a.eval s = v2) (L1 : List St) (L2 : List Int) (h2 : Two w0 w v1 v2 L1 L2) (u : Value) (hx : a.eval x = u) (F : Nat → Prop) (m : List Int) (hu : RowAt w F 1 u m.length (m.flatMap intC)) (hn : L2.length + m.length ≤ 2000000)
    (h : ∀ p c w' (n' : Nat) (L' : List Int), Hid (L' = L2 ++ m) → Hid (Two w0 w' v1 (.slice p n' c) L1 L') → Hid (Grew w w' v2 (.slice p n' c)) → wpList Try.prog ops Q rest (a.put o.dst (.slice p n' c)) w') : wpList Try.prog ops Q (o :: rest) a w := by
  refine wl_append_row hgd s x 22 ho w0.heap.size 3 _ 1 8 Try.underlying22 info3z rfl (by omega) v2 hs L2.length _ h2.o2 u hx F m.length _ hu (ints_one m) hn (by omega) h2.bel.size ?_
  intro v' w' k1 k2 k3
  obtain ⟨p, c, rfl⟩ := own_slice k1
  exact h p c w' _ _ (hid rfl) (hid (h2.grew2 k1 ⟨k2, k3⟩)) (hid ⟨k2, k3⟩)
end
end Go.Proofs.Ytfdfeiempeciiaa
