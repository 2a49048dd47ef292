/- All statements of a row, plainly; loads and stores of structs inside a fence. -/
import Derived.Test.YtfdfeiempeciiaaRf
namespace Go.Proofs.Ytfdfeiempeciiaa
open Go.ChangeShapes Go.WideShapes Go.ChangeAt Go.RowKit
set_option linter.unusedVariables false

section
variable {F : Fence} {n : Nat} {ops : Array Oper} {rest : List Oper} {op : Oper} {a : Act} {w : World} {Q : Exit → Act → World → Prop}

theorem wli_load (ty : TypeId) (x : Operand) (ho : op.op = .load ty x) (hw : Region.wanted op (yielded ops a.tmps) = true)
    (b o : Nat) (hx : a.eval x = .pointer (some ⟨b, o, none⟩)) (cs : List Value) (hc : w.rangeAt b o cs) (hT : AggT ty cs.length)
    (h : wpListIn F n Try.prog ops Q rest (a.put op.dst (.agg cs.toArray)) w) : wpListIn F n Try.prog ops Q (op :: rest) a w := by
  obtain ⟨d, h1, h2, h3⟩ := hT
  refine wpListIn_step fun K hK => ?_
  rw [if_pos hw]
  refine ⟨by simp [Oper.about, ho], ?_⟩
  rw [Oper.semAt_plain F _ _ (by rw [ho]; intro c hc'; cases hc')]
  simp only [execOp, ho, hx, Instr.loadAt, Instr.sureAddr, Sem.run_bind, Sem.run_pure, Result.andThen_ok, run_loadVar_mid w b o ty cs d hc h1 h2 h3]
  exact hK _ _ h

theorem wli_store_new (ty : TypeId) (x y : Operand) (ho : op.op = .store ty x y) (hw : Region.wanted op (yielded ops a.tmps) = true)
    (w0 : World) (t : TypeId) (old : Array Value) (hW : w = w0.alloc (.cells old t)) (b : Nat) (hb : w0.heap.size = b) (hx : a.eval x = .pointer (some ⟨b, 0, none⟩)) (cs : List Value) (hy : a.eval y = .agg cs.toArray)
    (hT : AggT ty cs.length) (hs : old.size = cs.length) (h1 : ∀ v ∈ cs, v.oneCell' = true)
    (h : wpListIn F n Try.prog ops Q rest (a.put op.dst undef) (w0.alloc (.cells cs.toArray t))) : wpListIn F n Try.prog ops Q (op :: rest) a w := by
  obtain ⟨d, _, _, h3⟩ := hT
  subst hW
  subst hb
  refine wpListIn_step fun K hK => ?_
  rw [if_pos hw]
  refine ⟨by simp [Oper.about, ho], ?_⟩
  rw [Oper.semAt_plain F _ _ (by rw [ho]; intro c hc'; cases hc')]
  simp only [execOp, ho, hx, hy, Instr.storeAt, Instr.sureAddr, Sem.run_bind, Sem.run_pure, Result.andThen_ok, run_storeVar_row (P := Try.prog) (w0.alloc (.cells old t)) w0.heap.size t ty old cs.toArray (heap_alloc_new _ _) (by simpa using h3) (by simpa using hs) (all_oneCell_toArray h1)]
  rw [setRow_alloc]
  exact hK _ _ h
end

/-- All statements, each ahead of those within it, and how deep they stand. -/
def St.flat (s : St) (d : Int) : List (Int × St) := match s with
  | ⟨op, nm, right, place, e, n, args, av, body, bv, els, ev, line, col⟩ => (d, ⟨op, nm, right, place, e, n, args, av, body, bv, els, ev, line, col⟩) ::
    (body.attach.flatMap (fun (x : { x // x ∈ body }) => have := List.sizeOf_lt_of_mem x.2; x.1.flat (wrap64 (d + 1))) ++ els.attach.flatMap (fun (x : { x // x ∈ els }) => have := List.sizeOf_lt_of_mem x.2; x.1.flat (wrap64 (d + 1))))
def flatL (d : Int) (l : List St) : List (Int × St) := l.flatMap (fun s => s.flat d)
theorem flatMap_attach {α β : Type} (l : List α) (f : α → List β) : l.attach.flatMap (fun x => f x.1) = l.flatMap f := by
  have : ∀ k : List { x // x ∈ l }, k.flatMap (fun x => f x.1) = (k.map (·.1)).flatMap f := by
    intro k
    induction k with
    | nil => rfl
    | cons a k ih => simp only [List.flatMap_cons, List.map_cons, ih]
  rw [this, List.attach_map_subtype_val]
theorem St.flat_eq (s : St) (d : Int) : s.flat d = (d, s) :: (flatL (wrap64 (d + 1)) s.body ++ flatL (wrap64 (d + 1)) s.els) := by
  cases s
  rw [St.flat]
  exact congrArg (List.cons _) (congr (congrArg HAppend.hAppend (flatMap_attach _ (fun x : St => x.flat (wrap64 (d + 1))))) (flatMap_attach _ (fun x : St => x.flat (wrap64 (d + 1)))))
theorem flatL_cons (d : Int) (s : St) (l : List St) : flatL d (s :: l) = (d, s) :: (flatL (wrap64 (d + 1)) s.body ++ (flatL (wrap64 (d + 1)) s.els ++ flatL d l)) := by
  rw [flatL, List.flatMap_cons, St.flat_eq, List.cons_append, List.append_assoc]
  rfl
theorem flatL_nil (d : Int) : flatL d [] = [] := rfl
theorem flatL_app (d : Int) (l m : List St) : flatL d (l ++ m) = flatL d l ++ flatL d m := by simp [flatL]

/-- Each of them lies in memory, if all do. -/
theorem flat_ok {w : World} {F : Nat → Prop} (s : St) : ∀ d, s.ok w F → ∀ x ∈ s.flat d, x.2.ok w F := by
  induction s using St.ind with
  | h s ih1 ih2 =>
    intro d h x hx
    rw [St.flat_eq] at hx
    simp only [List.mem_cons, List.mem_append, flatL, List.mem_flatMap] at hx
    rcases hx with rfl | ⟨k, hk, hx⟩ | ⟨k, hk, hx⟩
    · exact h
    · exact ih1 k hk _ (h.bodies k hk) x hx
    · exact ih2 k hk _ (h.elses k hk) x hx
theorem flatL_ok {w : World} {F : Nat → Prop} {l : List St} (d : Int) (h : ∀ k ∈ l, k.ok w F) : ∀ x ∈ flatL d l, x.2.ok w F := by
  intro x hx
  simp only [flatL, List.mem_flatMap] at hx
  obtain ⟨k, hk, hx⟩ := hx
  exact flat_ok k d (h k hk) x hx

/-- A piece of a row, from a place on. -/
def From {α : Type} (all : List α) (k : Nat) (l : List α) : Prop := ∀ j x, l[j]? = some x → all[k + j]? = some x
theorem From.here {α : Type} {all : List α} {k : Nat} {a : α} {l : List α} (h : From all k (a :: l)) : all[k]? = some a := h 0 a rfl
theorem From.tail {α : Type} {all : List α} {k : Nat} {a : α} {l : List α} (h : From all k (a :: l)) : From all (k + 1) l := fun j x hx => by
  have := h (j + 1) x (by simpa using hx)
  rwa [show k + (j + 1) = k + 1 + j by omega] at this
theorem From.left {α : Type} {all : List α} {k : Nat} {l m : List α} (h : From all k (l ++ m)) : From all k l := fun j x hx => h j x (by
  rw [List.getElem?_append_left (List.getElem?_eq_some_iff.1 hx).1]; exact hx)
theorem From.right {α : Type} {all : List α} {k : Nat} {l m : List α} (h : From all k (l ++ m)) : From all (k + l.length) m := fun j x hx => by
  have := h (l.length + j) x (by rw [List.getElem?_append_right (by omega)]; simpa using hx)
  rwa [← Nat.add_assoc] at this
theorem From.all {α : Type} (l : List α) : From l 0 l := fun j x hx => by rwa [Nat.zero_add]
theorem From.lt {α : Type} {all : List α} {k : Nat} {a : α} {l : List α} (h : From all k (a :: l)) : k < all.length := (List.getElem?_eq_some_iff.1 h.here).1
end Go.Proofs.Ytfdfeiempeciiaa
