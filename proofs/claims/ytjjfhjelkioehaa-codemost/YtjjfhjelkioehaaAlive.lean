/- The laws' alive; Writes. -/
import Derived.Test.YtjjfhjelkioehaaGret
namespace Go.Proofs.Ytjjfhjelkioehaa
open Go.ChangeShapes Go.WideShapes Go.ChangeAt Go.RowKit
set_option linter.unusedVariables false
set_option linter.unusedSimpArgs false

/-- Which slot an instruction gives a value. -/
def wrB (op dst : Int) : Int := if hasD op then dst else -1

set_option maxHeartbeats 2000000 in
theorem writes_any (op dst src rc n tt : Int) (a7 : Option Addr) (n7 p7 : Nat) (a8 : Option Addr) (n8 p8 : Nat) (w : World) :
    Calls Try.prog 13 #[.agg #[.int .i64 op, .int .i64 dst, .int .i64 src, .int .i64 rc, .int .i64 n, .int .i64 tt, .slice a7 n7 p7, .slice a8 n8 p8]] w fun e w' => e = .returned (.int .i64 (wrB op dst)) ∧ Below w.heap.size w w' := by
  have B := hid ((Below.refl w.heap.size w).alloc (Nat.le_refl _) (.cells #[.int .i64 op, .int .i64 dst, .int .i64 src, .int .i64 rc, .int .i64 n, .int .i64 tt, .slice a7 n7 p7, .slice a8 n8 p8] 33))
  go_enter Try.func13, Try.ntmps13
  go_wp2
  all_goals
    go_ret
    refine ⟨retI ?_, by first | exact B.out | exact (Below.refl _ _).alloc (Nat.le_refl _) _⟩
    first | (simp [wrB, hasD, *]; done) | (simp only [beq_iff_eq, beq_eq_false_iff_ne, ne_eq] at *; subst_vars; rfl)

theorem RowOf.one {α : Type} {cells : α → List Value} {s : Nat} {ok : World → α → Prop} {w : World} {b : Nat} {x : α} (h : BoxAt w b (cells x)) (ho : ok w x) : RowOf cells s ok w (.slice (some ⟨b, 0, none⟩) 1 1) [x] :=
  ⟨some ⟨b, 0, none⟩, 1, rfl, by simp, by decide, (fun p hp _ => by cases hp; rfl), (fun e => by cases e), fun i y hy => by
    cases i with
    | zero =>
      simp at hy; subst hy
      exact ⟨b, 0, rfl, h.1, fun j u hu => by have := h.2 j u hu; simpa using this, ho⟩
    | succ i => simp at hy⟩

theorem RowOf.two {α : Type} {cells : α → List Value} {s : Nat} {ok : World → α → Prop} {w : World} {b : Nat} {x y : α} (hs : (cells x).length = s) (h : BoxAt w b (cells x ++ cells y)) (hx : ok w x) (hy : ok w y) : RowOf cells s ok w (.slice (some ⟨b, 0, none⟩) 2 2) [x, y] :=
  ⟨some ⟨b, 0, none⟩, 2, rfl, by simp, by decide, (fun p hp _ => by cases hp; rfl), (fun e => by cases e), fun i z hz => by
    match i with
    | 0 =>
      simp at hz; subst hz
      refine ⟨b, 0, rfl, h.1, fun j u hu => ?_, hx⟩
      have := h.2 j u (by rw [List.getElem?_append_left (List.getElem?_eq_some_iff.1 hu).1]; exact hu)
      simpa using this
    | 1 =>
      simp at hz; subst hz
      refine ⟨b, 0, rfl, h.1, fun j u hu => ?_, hy⟩
      have := h.2 (s + j) u (by rw [List.getElem?_append_right (by omega), hs]; simpa using hu)
      simpa using this
    | k + 2 => simp at hz⟩

def i17 : Ins := ⟨17, 0, 0, 0, 0, 0, [], .slice none 0 0, [], .slice none 0 0⟩
def i2 : Ins := ⟨2, 0, 0, 0, 0, 0, [], .slice none 0 0, [], .slice none 0 0⟩
def l1 : Loc := ⟨1, 0, false⟩
def nl : Value := .slice none 0 0
def rowV (b n : Nat) : Value := .slice (some ⟨b, 0, none⟩) n n
def cA (p q : Nat) : Cd := ⟨[], nl, [], nl, [⟨[], nl, [i17], rowV p 1, 0⟩], rowV q 1, [], nl, [], nl⟩
def cB (g s p q : Nat) : Cd := ⟨[], nl, [l1], rowV g 1, [⟨[l1], rowV s 1, [i2, i17], rowV p 2, 0⟩], rowV q 1, [], nl, [], nl⟩

theorem insOkA (p q : Nat) (th : Int) (sv cv : Value) : insOk (cA p q) th ⟨[], sv, [i17], cv, 0⟩ 0 i17 = true := rfl
theorem insOkB (g s p q : Nat) (sv cv : Value) : insOk (cB g s p q) 0 ⟨[l1], sv, [i2, i17], cv, 0⟩ 0 i2 = false := rfl

theorem one_get {α : Type} {i : Nat} {x y : α} (h : [x][i]? = some y) : i = 0 ∧ y = x := by
  cases i with
  | zero => simp at h; exact ⟨rfl, h.symm⟩
  | succ i => simp at h

theorem goodA (p q : Nat) : GoodP (cA p q) := by
  refine ⟨by simp [cA], by simp [cA], by simp [cA], by simp [cA], by simp [cA], by simp [cA], by simp [cA], by simp [cA], ?_, by simp [cA], by simp [cA], ?_⟩
  · intro i t ht j l hl
    obtain ⟨rfl, rfl⟩ := one_get ht
    simp at hl
  · intro i t ht
    obtain ⟨rfl, rfl⟩ := one_get ht
    refine ⟨by simp, by simp, by simp, by simp, by simp, fun j x hx => ?_⟩
    obtain ⟨rfl, rfl⟩ := one_get hx
    exact insOkA p q _ _ _
theorem badB (g s p q : Nat) : ¬ GoodP (cB g s p q) := fun h => by
  have := (h.ths 0 _ rfl).2.2.2.2.2 0 i2 rfl
  have e := insOkB g s p q (rowV s 1) (rowV p 2)
  rw [show ((0 : Nat) : Int) = 0 from rfl] at this
  rw [e] at this
  cases this
theorem smallA (p q : Nat) : SmallP (cA p q) := by
  refine ⟨by simp [cA], by simp [cA], by simp [cA], by simp [cA], by simp [cA], by simp [cA], ?_, ?_, ?_⟩
  · intro i t ht; obtain ⟨rfl, rfl⟩ := one_get ht; simp
  · intro i t ht; obtain ⟨rfl, rfl⟩ := one_get ht; simp
  · intro i t ht j x hx; obtain ⟨rfl, rfl⟩ := one_get ht; obtain ⟨rfl, rfl⟩ := one_get hx; simp [i17]
theorem smallB (g s p q : Nat) : SmallP (cB g s p q) := by
  refine ⟨by simp [cB], by simp [cB], by simp [cB], by simp [cB], by simp [cB], by simp [cB], ?_, ?_, ?_⟩
  · intro i t ht; obtain ⟨rfl, rfl⟩ := one_get ht; simp
  · intro i t ht; obtain ⟨rfl, rfl⟩ := one_get ht; simp
  · intro i t ht j x hx
    obtain ⟨rfl, rfl⟩ := one_get ht
    match j with
    | 0 => simp at hx; subst hx; simp [i2]
    | 1 => simp at hx; subst hx; simp [i17]
    | k + 2 => simp at hx

theorem i64z : I64 0 := ⟨by decide, by decide⟩
theorem l1ok (w : World) : l1.okW w := ⟨(⟨by decide, by decide⟩ : I64 1), i64z⟩
theorem n17 : i17.nums := ⟨(⟨by decide, by decide⟩ : I64 17), i64z, i64z, i64z, i64z, i64z⟩
theorem n2 : i2.nums := ⟨(⟨by decide, by decide⟩ : I64 2), i64z, i64z, i64z, i64z, i64z⟩
theorem okA {w : World} {p q : Nat} (hp : BoxAt w p i17.cells) (hq : BoxAt w q [nl, rowV p 1, .int .i64 0]) : (cA p q).okW w :=
  ⟨RowOf.nil _ _ _ _, RowOf.nil _ _ _ _, RowOf.one (cells := Bd.cells) (ok := Bd.okW) (x := ⟨[], nl, [i17], rowV p 1, 0⟩) hq ⟨i64z, RowOf.nil _ _ _ _, RowOf.one (cells := Ins.cells) (ok := Ins.okW) (x := i17) hp ⟨n17, RowOf.nil _ _ _ _, RowOf.nil _ _ _ _⟩⟩, RowOf.nil _ _ _ _, RowOf.nil _ _ _ _⟩
theorem okB {w : World} {g s p q : Nat} (hg : BoxAt w g l1.cells) (hs : BoxAt w s l1.cells) (hp : BoxAt w p (i2.cells ++ i17.cells)) (hq : BoxAt w q [rowV s 1, rowV p 2, .int .i64 0]) : (cB g s p q).okW w :=
  ⟨RowOf.nil _ _ _ _, RowOf.one (cells := Loc.cells) (ok := Loc.okW) (x := l1) hg (l1ok w), RowOf.one (cells := Bd.cells) (ok := Bd.okW) (x := ⟨[l1], rowV s 1, [i2, i17], rowV p 2, 0⟩) hq ⟨i64z, RowOf.one (cells := Loc.cells) (ok := Loc.okW) (x := l1) hs (l1ok w), RowOf.two (cells := Ins.cells) (ok := Ins.okW) (x := i2) (y := i17) rfl hp ⟨n2, RowOf.nil _ _ _ _, RowOf.nil _ _ _ _⟩ ⟨n17, RowOf.nil _ _ _ _, RowOf.nil _ _ _ _⟩⟩, RowOf.nil _ _ _ _, RowOf.nil _ _ _ _⟩

set_option maxRecDepth 100000 in
set_option maxHeartbeats 1000000 in
theorem alive_any (w : World) : Calls Try.prog 7 #[] w fun e w' => e = .returned (.bool true) ∧ Below w.heap.size w w' := by
  have K0 := (((((((BoxAt.new w #[.int .i64 17, .int .i64 0, .int .i64 0, .int .i64 0, .int .i64 0, .int .i64 0, .slice none 0 0, .slice none 0 0] 33).past (.cells #[.slice none 0 0, .slice (some ⟨w.heap.size, 0, none⟩) 1 1, .int .i64 0] 39)).past (.cells #[.slice none 0 0, .slice none 0 0, .slice (some ⟨w.heap.size + 1, 0, none⟩) 1 1, .slice none 0 0, .slice none 0 0] 28)).past (.cells #[.int .i64 1, .int .i64 0, .bool false] 42)).past (.cells #[.int .i64 1, .int .i64 0, .bool false] 42)).past (.cells #[.int .i64 2, .int .i64 0, .int .i64 0, .int .i64 0, .int .i64 0, .int .i64 0, .slice none 0 0, .slice none 0 0, .int .i64 17, .int .i64 0, .int .i64 0, .int .i64 0, .int .i64 0, .int .i64 0, .slice none 0 0, .slice none 0 0] 33)).past (.cells #[.slice (some ⟨w.heap.size + 1 + 1 + 1 + 1, 0, none⟩) 1 1, .slice (some ⟨w.heap.size + 1 + 1 + 1 + 1 + 1, 0, none⟩) 2 2, .int .i64 0] 39)).past (.cells #[.slice none 0 0, .slice (some ⟨w.heap.size + 1 + 1 + 1, 0, none⟩) 1 1, .slice (some ⟨w.heap.size + 1 + 1 + 1 + 1 + 1 + 1, 0, none⟩) 1 1, .slice none 0 0, .slice none 0 0] 28)
  have K1 := ((((((BoxAt.new (World.alloc w (.cells #[.int .i64 17, .int .i64 0, .int .i64 0, .int .i64 0, .int .i64 0, .int .i64 0, .slice none 0 0, .slice none 0 0] 33)) #[.slice none 0 0, .slice (some ⟨w.heap.size, 0, none⟩) 1 1, .int .i64 0] 39).past (.cells #[.slice none 0 0, .slice none 0 0, .slice (some ⟨w.heap.size + 1, 0, none⟩) 1 1, .slice none 0 0, .slice none 0 0] 28)).past (.cells #[.int .i64 1, .int .i64 0, .bool false] 42)).past (.cells #[.int .i64 1, .int .i64 0, .bool false] 42)).past (.cells #[.int .i64 2, .int .i64 0, .int .i64 0, .int .i64 0, .int .i64 0, .int .i64 0, .slice none 0 0, .slice none 0 0, .int .i64 17, .int .i64 0, .int .i64 0, .int .i64 0, .int .i64 0, .int .i64 0, .slice none 0 0, .slice none 0 0] 33)).past (.cells #[.slice (some ⟨w.heap.size + 1 + 1 + 1 + 1, 0, none⟩) 1 1, .slice (some ⟨w.heap.size + 1 + 1 + 1 + 1 + 1, 0, none⟩) 2 2, .int .i64 0] 39)).past (.cells #[.slice none 0 0, .slice (some ⟨w.heap.size + 1 + 1 + 1, 0, none⟩) 1 1, .slice (some ⟨w.heap.size + 1 + 1 + 1 + 1 + 1 + 1, 0, none⟩) 1 1, .slice none 0 0, .slice none 0 0] 28)
  have K2 := (((((BoxAt.new (World.alloc (World.alloc w (.cells #[.int .i64 17, .int .i64 0, .int .i64 0, .int .i64 0, .int .i64 0, .int .i64 0, .slice none 0 0, .slice none 0 0] 33)) (.cells #[.slice none 0 0, .slice (some ⟨w.heap.size, 0, none⟩) 1 1, .int .i64 0] 39)) #[.slice none 0 0, .slice none 0 0, .slice (some ⟨w.heap.size + 1, 0, none⟩) 1 1, .slice none 0 0, .slice none 0 0] 28).past (.cells #[.int .i64 1, .int .i64 0, .bool false] 42)).past (.cells #[.int .i64 1, .int .i64 0, .bool false] 42)).past (.cells #[.int .i64 2, .int .i64 0, .int .i64 0, .int .i64 0, .int .i64 0, .int .i64 0, .slice none 0 0, .slice none 0 0, .int .i64 17, .int .i64 0, .int .i64 0, .int .i64 0, .int .i64 0, .int .i64 0, .slice none 0 0, .slice none 0 0] 33)).past (.cells #[.slice (some ⟨w.heap.size + 1 + 1 + 1 + 1, 0, none⟩) 1 1, .slice (some ⟨w.heap.size + 1 + 1 + 1 + 1 + 1, 0, none⟩) 2 2, .int .i64 0] 39)).past (.cells #[.slice none 0 0, .slice (some ⟨w.heap.size + 1 + 1 + 1, 0, none⟩) 1 1, .slice (some ⟨w.heap.size + 1 + 1 + 1 + 1 + 1 + 1, 0, none⟩) 1 1, .slice none 0 0, .slice none 0 0] 28)
  have K3 := ((((BoxAt.new (World.alloc (World.alloc (World.alloc w (.cells #[.int .i64 17, .int .i64 0, .int .i64 0, .int .i64 0, .int .i64 0, .int .i64 0, .slice none 0 0, .slice none 0 0] 33)) (.cells #[.slice none 0 0, .slice (some ⟨w.heap.size, 0, none⟩) 1 1, .int .i64 0] 39)) (.cells #[.slice none 0 0, .slice none 0 0, .slice (some ⟨w.heap.size + 1, 0, none⟩) 1 1, .slice none 0 0, .slice none 0 0] 28)) #[.int .i64 1, .int .i64 0, .bool false] 42).past (.cells #[.int .i64 1, .int .i64 0, .bool false] 42)).past (.cells #[.int .i64 2, .int .i64 0, .int .i64 0, .int .i64 0, .int .i64 0, .int .i64 0, .slice none 0 0, .slice none 0 0, .int .i64 17, .int .i64 0, .int .i64 0, .int .i64 0, .int .i64 0, .int .i64 0, .slice none 0 0, .slice none 0 0] 33)).past (.cells #[.slice (some ⟨w.heap.size + 1 + 1 + 1 + 1, 0, none⟩) 1 1, .slice (some ⟨w.heap.size + 1 + 1 + 1 + 1 + 1, 0, none⟩) 2 2, .int .i64 0] 39)).past (.cells #[.slice none 0 0, .slice (some ⟨w.heap.size + 1 + 1 + 1, 0, none⟩) 1 1, .slice (some ⟨w.heap.size + 1 + 1 + 1 + 1 + 1 + 1, 0, none⟩) 1 1, .slice none 0 0, .slice none 0 0] 28)
  have K4 := (((BoxAt.new (World.alloc (World.alloc (World.alloc (World.alloc w (.cells #[.int .i64 17, .int .i64 0, .int .i64 0, .int .i64 0, .int .i64 0, .int .i64 0, .slice none 0 0, .slice none 0 0] 33)) (.cells #[.slice none 0 0, .slice (some ⟨w.heap.size, 0, none⟩) 1 1, .int .i64 0] 39)) (.cells #[.slice none 0 0, .slice none 0 0, .slice (some ⟨w.heap.size + 1, 0, none⟩) 1 1, .slice none 0 0, .slice none 0 0] 28)) (.cells #[.int .i64 1, .int .i64 0, .bool false] 42)) #[.int .i64 1, .int .i64 0, .bool false] 42).past (.cells #[.int .i64 2, .int .i64 0, .int .i64 0, .int .i64 0, .int .i64 0, .int .i64 0, .slice none 0 0, .slice none 0 0, .int .i64 17, .int .i64 0, .int .i64 0, .int .i64 0, .int .i64 0, .int .i64 0, .slice none 0 0, .slice none 0 0] 33)).past (.cells #[.slice (some ⟨w.heap.size + 1 + 1 + 1 + 1, 0, none⟩) 1 1, .slice (some ⟨w.heap.size + 1 + 1 + 1 + 1 + 1, 0, none⟩) 2 2, .int .i64 0] 39)).past (.cells #[.slice none 0 0, .slice (some ⟨w.heap.size + 1 + 1 + 1, 0, none⟩) 1 1, .slice (some ⟨w.heap.size + 1 + 1 + 1 + 1 + 1 + 1, 0, none⟩) 1 1, .slice none 0 0, .slice none 0 0] 28)
  have K5 := ((BoxAt.new (World.alloc (World.alloc (World.alloc (World.alloc (World.alloc w (.cells #[.int .i64 17, .int .i64 0, .int .i64 0, .int .i64 0, .int .i64 0, .int .i64 0, .slice none 0 0, .slice none 0 0] 33)) (.cells #[.slice none 0 0, .slice (some ⟨w.heap.size, 0, none⟩) 1 1, .int .i64 0] 39)) (.cells #[.slice none 0 0, .slice none 0 0, .slice (some ⟨w.heap.size + 1, 0, none⟩) 1 1, .slice none 0 0, .slice none 0 0] 28)) (.cells #[.int .i64 1, .int .i64 0, .bool false] 42)) (.cells #[.int .i64 1, .int .i64 0, .bool false] 42)) #[.int .i64 2, .int .i64 0, .int .i64 0, .int .i64 0, .int .i64 0, .int .i64 0, .slice none 0 0, .slice none 0 0, .int .i64 17, .int .i64 0, .int .i64 0, .int .i64 0, .int .i64 0, .int .i64 0, .slice none 0 0, .slice none 0 0] 33).past (.cells #[.slice (some ⟨w.heap.size + 1 + 1 + 1 + 1, 0, none⟩) 1 1, .slice (some ⟨w.heap.size + 1 + 1 + 1 + 1 + 1, 0, none⟩) 2 2, .int .i64 0] 39)).past (.cells #[.slice none 0 0, .slice (some ⟨w.heap.size + 1 + 1 + 1, 0, none⟩) 1 1, .slice (some ⟨w.heap.size + 1 + 1 + 1 + 1 + 1 + 1, 0, none⟩) 1 1, .slice none 0 0, .slice none 0 0] 28)
  have K6 := (BoxAt.new (World.alloc (World.alloc (World.alloc (World.alloc (World.alloc (World.alloc w (.cells #[.int .i64 17, .int .i64 0, .int .i64 0, .int .i64 0, .int .i64 0, .int .i64 0, .slice none 0 0, .slice none 0 0] 33)) (.cells #[.slice none 0 0, .slice (some ⟨w.heap.size, 0, none⟩) 1 1, .int .i64 0] 39)) (.cells #[.slice none 0 0, .slice none 0 0, .slice (some ⟨w.heap.size + 1, 0, none⟩) 1 1, .slice none 0 0, .slice none 0 0] 28)) (.cells #[.int .i64 1, .int .i64 0, .bool false] 42)) (.cells #[.int .i64 1, .int .i64 0, .bool false] 42)) (.cells #[.int .i64 2, .int .i64 0, .int .i64 0, .int .i64 0, .int .i64 0, .int .i64 0, .slice none 0 0, .slice none 0 0, .int .i64 17, .int .i64 0, .int .i64 0, .int .i64 0, .int .i64 0, .int .i64 0, .slice none 0 0, .slice none 0 0] 33)) #[.slice (some ⟨w.heap.size + 1 + 1 + 1 + 1, 0, none⟩) 1 1, .slice (some ⟨w.heap.size + 1 + 1 + 1 + 1 + 1, 0, none⟩) 2 2, .int .i64 0] 39).past (.cells #[.slice none 0 0, .slice (some ⟨w.heap.size + 1 + 1 + 1, 0, none⟩) 1 1, .slice (some ⟨w.heap.size + 1 + 1 + 1 + 1 + 1 + 1, 0, none⟩) 1 1, .slice none 0 0, .slice none 0 0] 28)
  have K7 := BoxAt.new (World.alloc (World.alloc (World.alloc (World.alloc (World.alloc (World.alloc (World.alloc w (.cells #[.int .i64 17, .int .i64 0, .int .i64 0, .int .i64 0, .int .i64 0, .int .i64 0, .slice none 0 0, .slice none 0 0] 33)) (.cells #[.slice none 0 0, .slice (some ⟨w.heap.size, 0, none⟩) 1 1, .int .i64 0] 39)) (.cells #[.slice none 0 0, .slice none 0 0, .slice (some ⟨w.heap.size + 1, 0, none⟩) 1 1, .slice none 0 0, .slice none 0 0] 28)) (.cells #[.int .i64 1, .int .i64 0, .bool false] 42)) (.cells #[.int .i64 1, .int .i64 0, .bool false] 42)) (.cells #[.int .i64 2, .int .i64 0, .int .i64 0, .int .i64 0, .int .i64 0, .int .i64 0, .slice none 0 0, .slice none 0 0, .int .i64 17, .int .i64 0, .int .i64 0, .int .i64 0, .int .i64 0, .int .i64 0, .slice none 0 0, .slice none 0 0] 33)) (.cells #[.slice (some ⟨w.heap.size + 1 + 1 + 1 + 1, 0, none⟩) 1 1, .slice (some ⟨w.heap.size + 1 + 1 + 1 + 1 + 1, 0, none⟩) 2 2, .int .i64 0] 39)) #[.slice none 0 0, .slice (some ⟨w.heap.size + 1 + 1 + 1, 0, none⟩) 1 1, .slice (some ⟨w.heap.size + 1 + 1 + 1 + 1 + 1 + 1, 0, none⟩) 1 1, .slice none 0 0, .slice none 0 0] 28
  simp only [World.size_alloc] at K1 K2 K3 K4 K5 K6 K7
  have B0 := Below.refl w.heap.size w
  replace B0 := B0.alloc B0.size (.cells #[.int .i64 17, .int .i64 0, .int .i64 0, .int .i64 0, .int .i64 0, .int .i64 0, .slice none 0 0, .slice none 0 0] 33)
  replace B0 := B0.alloc B0.size (.cells #[.slice none 0 0, .slice (some ⟨w.heap.size, 0, none⟩) 1 1, .int .i64 0] 39)
  replace B0 := B0.alloc B0.size (.cells #[.slice none 0 0, .slice none 0 0, .slice (some ⟨w.heap.size + 1, 0, none⟩) 1 1, .slice none 0 0, .slice none 0 0] 28)
  replace B0 := B0.alloc B0.size (.cells #[.int .i64 1, .int .i64 0, .bool false] 42)
  replace B0 := B0.alloc B0.size (.cells #[.int .i64 1, .int .i64 0, .bool false] 42)
  replace B0 := B0.alloc B0.size (.cells #[.int .i64 2, .int .i64 0, .int .i64 0, .int .i64 0, .int .i64 0, .int .i64 0, .slice none 0 0, .slice none 0 0, .int .i64 17, .int .i64 0, .int .i64 0, .int .i64 0, .int .i64 0, .int .i64 0, .slice none 0 0, .slice none 0 0] 33)
  replace B0 := B0.alloc B0.size (.cells #[.slice (some ⟨w.heap.size + 1 + 1 + 1 + 1, 0, none⟩) 1 1, .slice (some ⟨w.heap.size + 1 + 1 + 1 + 1 + 1, 0, none⟩) 2 2, .int .i64 0] 39)
  replace B0 := B0.alloc B0.size (.cells #[.slice none 0 0, .slice (some ⟨w.heap.size + 1 + 1 + 1, 0, none⟩) 1 1, .slice (some ⟨w.heap.size + 1 + 1 + 1 + 1 + 1 + 1, 0, none⟩) 1 1, .slice none 0 0, .slice none 0 0] 28)
  have ok1 := okA (p := w.heap.size) (q := w.heap.size + 1) K0 K1
  have ok2 := okB (g := w.heap.size + 1 + 1 + 1) (s := w.heap.size + 1 + 1 + 1 + 1) (p := w.heap.size + 1 + 1 + 1 + 1 + 1) (q := w.heap.size + 1 + 1 + 1 + 1 + 1 + 1) K3 K4 K5 K6
  have C1 := goodC_any (cA (w.heap.size) (w.heap.size + 1)) (World.alloc (World.alloc (World.alloc (World.alloc (World.alloc (World.alloc (World.alloc (World.alloc w (.cells #[.int .i64 17, .int .i64 0, .int .i64 0, .int .i64 0, .int .i64 0, .int .i64 0, .slice none 0 0, .slice none 0 0] 33)) (.cells #[.slice none 0 0, .slice (some ⟨w.heap.size, 0, none⟩) 1 1, .int .i64 0] 39)) (.cells #[.slice none 0 0, .slice none 0 0, .slice (some ⟨w.heap.size + 1, 0, none⟩) 1 1, .slice none 0 0, .slice none 0 0] 28)) (.cells #[.int .i64 1, .int .i64 0, .bool false] 42)) (.cells #[.int .i64 1, .int .i64 0, .bool false] 42)) (.cells #[.int .i64 2, .int .i64 0, .int .i64 0, .int .i64 0, .int .i64 0, .int .i64 0, .slice none 0 0, .slice none 0 0, .int .i64 17, .int .i64 0, .int .i64 0, .int .i64 0, .int .i64 0, .int .i64 0, .slice none 0 0, .slice none 0 0] 33)) (.cells #[.slice (some ⟨w.heap.size + 1 + 1 + 1 + 1, 0, none⟩) 1 1, .slice (some ⟨w.heap.size + 1 + 1 + 1 + 1 + 1, 0, none⟩) 2 2, .int .i64 0] 39)) (.cells #[.slice none 0 0, .slice (some ⟨w.heap.size + 1 + 1 + 1, 0, none⟩) 1 1, .slice (some ⟨w.heap.size + 1 + 1 + 1 + 1 + 1 + 1, 0, none⟩) 1 1, .slice none 0 0, .slice none 0 0] 28)) ok1 (smallA _ _)
  have C2 := fun W' (h : Below (World.heap (World.alloc (World.alloc (World.alloc (World.alloc (World.alloc (World.alloc (World.alloc (World.alloc w (.cells #[.int .i64 17, .int .i64 0, .int .i64 0, .int .i64 0, .int .i64 0, .int .i64 0, .slice none 0 0, .slice none 0 0] 33)) (.cells #[.slice none 0 0, .slice (some ⟨w.heap.size, 0, none⟩) 1 1, .int .i64 0] 39)) (.cells #[.slice none 0 0, .slice none 0 0, .slice (some ⟨w.heap.size + 1, 0, none⟩) 1 1, .slice none 0 0, .slice none 0 0] 28)) (.cells #[.int .i64 1, .int .i64 0, .bool false] 42)) (.cells #[.int .i64 1, .int .i64 0, .bool false] 42)) (.cells #[.int .i64 2, .int .i64 0, .int .i64 0, .int .i64 0, .int .i64 0, .int .i64 0, .slice none 0 0, .slice none 0 0, .int .i64 17, .int .i64 0, .int .i64 0, .int .i64 0, .int .i64 0, .int .i64 0, .slice none 0 0, .slice none 0 0] 33)) (.cells #[.slice (some ⟨w.heap.size + 1 + 1 + 1 + 1, 0, none⟩) 1 1, .slice (some ⟨w.heap.size + 1 + 1 + 1 + 1 + 1, 0, none⟩) 2 2, .int .i64 0] 39)) (.cells #[.slice none 0 0, .slice (some ⟨w.heap.size + 1 + 1 + 1, 0, none⟩) 1 1, .slice (some ⟨w.heap.size + 1 + 1 + 1 + 1 + 1 + 1, 0, none⟩) 1 1, .slice none 0 0, .slice none 0 0] 28))).size (World.alloc (World.alloc (World.alloc (World.alloc (World.alloc (World.alloc (World.alloc (World.alloc w (.cells #[.int .i64 17, .int .i64 0, .int .i64 0, .int .i64 0, .int .i64 0, .int .i64 0, .slice none 0 0, .slice none 0 0] 33)) (.cells #[.slice none 0 0, .slice (some ⟨w.heap.size, 0, none⟩) 1 1, .int .i64 0] 39)) (.cells #[.slice none 0 0, .slice none 0 0, .slice (some ⟨w.heap.size + 1, 0, none⟩) 1 1, .slice none 0 0, .slice none 0 0] 28)) (.cells #[.int .i64 1, .int .i64 0, .bool false] 42)) (.cells #[.int .i64 1, .int .i64 0, .bool false] 42)) (.cells #[.int .i64 2, .int .i64 0, .int .i64 0, .int .i64 0, .int .i64 0, .int .i64 0, .slice none 0 0, .slice none 0 0, .int .i64 17, .int .i64 0, .int .i64 0, .int .i64 0, .int .i64 0, .int .i64 0, .slice none 0 0, .slice none 0 0] 33)) (.cells #[.slice (some ⟨w.heap.size + 1 + 1 + 1 + 1, 0, none⟩) 1 1, .slice (some ⟨w.heap.size + 1 + 1 + 1 + 1 + 1, 0, none⟩) 2 2, .int .i64 0] 39)) (.cells #[.slice none 0 0, .slice (some ⟨w.heap.size + 1 + 1 + 1, 0, none⟩) 1 1, .slice (some ⟨w.heap.size + 1 + 1 + 1 + 1 + 1 + 1, 0, none⟩) 1 1, .slice none 0 0, .slice none 0 0] 28)) W') => goodC_any (cB (w.heap.size + 1 + 1 + 1) (w.heap.size + 1 + 1 + 1 + 1) (w.heap.size + 1 + 1 + 1 + 1 + 1) (w.heap.size + 1 + 1 + 1 + 1 + 1 + 1)) W' (Cd.kept ok2 h) (smallB _ _ _ _)
  have G1 := hid (goodA (w.heap.size) (w.heap.size + 1))
  have G2 := hid (badB (w.heap.size + 1 + 1 + 1) (w.heap.size + 1 + 1 + 1 + 1) (w.heap.size + 1 + 1 + 1 + 1 + 1) (w.heap.size + 1 + 1 + 1 + 1 + 1 + 1))
  generalize GoodP (cA (w.heap.size) (w.heap.size + 1)) = P1 at *
  generalize GoodP (cB (w.heap.size + 1 + 1 + 1) (w.heap.size + 1 + 1 + 1 + 1) (w.heap.size + 1 + 1 + 1 + 1 + 1) (w.heap.size + 1 + 1 + 1 + 1 + 1 + 1)) = P2 at *
  simp only [cA, cB, nl, rowV] at C1 C2
  replace C1 := hid C1
  replace C2 := hid C2
  replace B0 := hid B0
  replace K7 := hid K7
  clear ok1 ok2 K0 K1 K2 K3 K4 K5 K6
  go_enter Try.func7, Try.ntmps7
  go_wp2_with fail
  refine Calls.mono C1.out ?_
  rintro e w1 ⟨q, rfl, hq, hb⟩
  obtain rfl : q = true := hq.2 G1.out
  have B1 := hid (bover B0.out hb)
  have d0 := (K7.out.kept hb).2 0 _ rfl
  have d1 := (K7.out.kept hb).2 1 _ rfl
  have d2 := (K7.out.kept hb).2 2 _ rfl
  have d3 := (K7.out.kept hb).2 3 _ rfl
  have d4 := (K7.out.kept hb).2 4 _ rfl
  replace C2 := hid (C2.out _ hb)
  clear hb hq C1 K7 B0
  go_wp2_with fail
  refine Calls.mono C2.out ?_
  rintro e w2 ⟨q, rfl, hq, hb⟩
  obtain rfl : q = false := by cases q; rfl; exact absurd (hq.1 rfl) G2.out
  have B2 := hid (bover B1.out hb)
  clear hb hq C2 B1 d0 d1 d2 d3 d4
  have C3 := hid (fun W => writes_any 10 3 0 0 0 0 none 0 0 none 0 0 W)
  go_wp2_with (go_at_call 13; refine Calls.mono (C3.out _) ?_; rintro e w3 ⟨rfl, hb⟩)
  go_ret
  exact ⟨rfl, bover B2.out hb⟩
end Go.Proofs.Ytjjfhjelkioehaa
