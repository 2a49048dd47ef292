/- The statements' own example: its least sets. -/
import Derived.Test.YtkdpcaoocmbbhaaDoorSv
import Derived.Test.YtkdpcaoocmbbhaaDoorAlive
import Derived.Test.YtkdpcaoocmbbhaaDoorRr
namespace Go.Proofs.YtkdpcaoocmbbhaaDoor
open Go.ChangeShapes Go.WideShapes Go.ChangeAt Go.RowKit Go.Deep
set_option linter.unusedVariables false
set_option linter.unusedSimpArgs false

theorem flat_rng {α : Type} {cells : α → List Value} {s : Nat} : ∀ (l : List α), (∀ x ∈ l, (cells x).length = s) → ∀ (i : Nat) (x : α), l[i]? = some x → ∀ (j : Nat) (u : Value), (cells x)[j]? = some u → (l.flatMap cells)[i * s + j]? = some u
  | [], _, i, x, h, _, _, _ => by simp at h
  | y :: l, hs, 0, x, h, j, u, hu => by
    obtain rfl : y = x := by simpa using h
    have hj := (List.getElem?_eq_some_iff.1 hu).1
    rw [List.flatMap_cons, List.getElem?_append_left (by omega)]
    rw [show 0 * s + j = j by omega]
    exact hu
  | y :: l, hs, i + 1, x, h, j, u, hu => by
    have ih := flat_rng l (fun z hz => hs z (List.mem_cons_of_mem _ hz)) i x (by simpa using h) j u hu
    have hl := hs y (List.mem_cons_self ..)
    rw [List.flatMap_cons, List.getElem?_append_right (by rw [hl, Nat.add_mul]; omega), hl, ← ih]
    congr 1
    rw [Nat.add_mul]
    omega
theorem RowOf.box {α : Type} {cells : α → List Value} {s : Nat} {ok : World → α → Prop} {w : World} {b : Nat} (l : List α) (hs : ∀ x ∈ l, (cells x).length = s) (h : BoxAt w b (l.flatMap cells)) (h0 : 0 < l.length) (hm : l.length ≤ maxLen) (ho : ∀ x ∈ l, ok w x) : RowOf cells s ok w (.slice (some ⟨b, 0, none⟩) l.length l.length) l :=
  ⟨some ⟨b, 0, none⟩, l.length, rfl, Nat.le_refl _, hm, (fun p hp _ => by cases hp; rfl), (fun e => by cases e), fun i x hx => ⟨b, 0, rfl, h.1, fun j u hu => by
    have := h.2 (i * s + j) u (flat_rng l hs i x hx j u hu)
    rw [show 0 + i * s + j = i * s + j by omega]
    exact this, ho x (List.mem_of_getElem? hx)⟩⟩

def q4 : Loc := ⟨4, 0, false⟩
def m0 : Ins := ⟨15, 0, 0, 0, 0, 0, [], nl, [], nl⟩
def m1 : Ins := ⟨8, 0, 0, 0, 0, 0, [], nl, [], nl⟩
def m2 (b : Nat) : Ins := ⟨5, 0, 0, 0, 0, 0, [⟨2, 0, 0⟩], rowV b 1, [], nl⟩
def m3 : Ins := ⟨2, 1, 0, 0, 0, 0, [], nl, [], nl⟩
def m4 : Ins := ⟨16, 0, 0, 0, 0, 0, [], nl, [], nl⟩
def cL (r g s b k t e q : Nat) : Cd := ⟨[⟨[], nl⟩], rowV r 1, [q4], rowV g 1, [⟨[q4, q4], rowV s 2, [m0, m1, m2 b, m3, m4, i17], rowV k 6, 0⟩], rowV t 1, [⟨0, 1, 0⟩], rowV e 1, [⟨0, 0, 4⟩], rowV q 1⟩
def bL (s b k : Nat) : Bd := ⟨[q4, q4], rowV s 2, [m0, m1, m2 b, m3, m4, i17], rowV k 6, 0⟩

section
variable (r g s b k t e q : Nat)
theorem insL0 : insOk (cL r g s b k t e q) 0 (bL s b k) 0 m0 = true := rfl
theorem insL1 : insOk (cL r g s b k t e q) 0 (bL s b k) 1 m1 = true := rfl
theorem insL2 : insOk (cL r g s b k t e q) 0 (bL s b k) 2 (m2 b) = true := rfl
theorem insL3 : insOk (cL r g s b k t e q) 0 (bL s b k) 3 m3 = true := rfl
theorem insL4 : insOk (cL r g s b k t e q) 0 (bL s b k) 4 m4 = true := rfl
theorem insL5 : insOk (cL r g s b k t e q) 0 (bL s b k) 5 i17 = true := rfl
theorem codeL {j : Nat} {x : Ins} (h : (bL s b k).code[j]? = some x) : (j = 0 ∧ x = m0) ∨ (j = 1 ∧ x = m1) ∨ (j = 2 ∧ x = m2 b) ∨ (j = 3 ∧ x = m3) ∨ (j = 4 ∧ x = m4) ∨ (j = 5 ∧ x = i17) := by
  match j with
  | 0 => simp [bL] at h; exact .inl ⟨rfl, h.symm⟩
  | 1 => simp [bL] at h; exact .inr (.inl ⟨rfl, h.symm⟩)
  | 2 => simp [bL] at h; exact .inr (.inr (.inl ⟨rfl, h.symm⟩))
  | 3 => simp [bL] at h; exact .inr (.inr (.inr (.inl ⟨rfl, h.symm⟩)))
  | 4 => simp [bL] at h; exact .inr (.inr (.inr (.inr (.inl ⟨rfl, h.symm⟩))))
  | 5 => simp [bL] at h; exact .inr (.inr (.inr (.inr (.inr ⟨rfl, h.symm⟩))))
  | n + 6 => simp [bL] at h
theorem thsL {i : Nat} {x : Bd} (h : (cL r g s b k t e q).threads[i]? = some x) : i = 0 ∧ x = bL s b k := one_get h
theorem slotsL {j : Nat} {l : Loc} (h : (bL s b k).slots[j]? = some l) : l = q4 := by
  match j with
  | 0 => simp [bL] at h; exact h.symm
  | 1 => simp [bL] at h; exact h.symm
  | n + 2 => simp [bL] at h
theorem goodL : GoodP (cL r g s b k t e q) := by
  refine ⟨by simp [cL], by simp [cL], by simp [cL], by simp [cL], by simp [cL], ?_, ?_, ?_, ?_, ?_, ?_, ?_⟩
  · intro i x hx
    obtain ⟨rfl, rfl⟩ := one_get hx
    simp
  · intro i x hx
    obtain ⟨rfl, rfl⟩ := one_get hx
    rfl
  · intro i x hx j l hl
    obtain ⟨rfl, rfl⟩ := one_get hx
    simp at hl
  · intro i x hx j l hl
    obtain ⟨rfl, rfl⟩ := thsL r g s b k t e q hx
    obtain rfl := slotsL s b k hl
    rfl
  · intro i x hx
    obtain ⟨rfl, rfl⟩ := one_get hx
    exact ⟨⟨rfl, rfl, rfl, rfl, by decide⟩, fun k o hk _ => by omega⟩
  · intro i x hx
    obtain ⟨rfl, rfl⟩ := one_get hx
    exact ⟨.inl rfl, rfl⟩
  · intro i x hx
    obtain ⟨rfl, rfl⟩ := thsL r g s b k t e q hx
    refine ⟨by simp [bL], by simp [bL], by simp [bL], by simp [bL], by simp [bL], fun j y hy => ?_⟩
    rcases codeL s b k hy with ⟨rfl, rfl⟩ | ⟨rfl, rfl⟩ | ⟨rfl, rfl⟩ | ⟨rfl, rfl⟩ | ⟨rfl, rfl⟩ | ⟨rfl, rfl⟩
    · exact insL0 r g s b k t e q
    · exact insL1 r g s b k t e q
    · exact insL2 r g s b k t e q
    · exact insL3 r g s b k t e q
    · exact insL4 r g s b k t e q
    · exact insL5 r g s b k t e q
theorem smallL : SmallP (cL r g s b k t e q) := by
  refine ⟨by simp [cL], by simp [cL], by simp [cL], by simp [cL], by simp [cL], ?_, ?_, ?_, ?_⟩
  · intro i x hx; obtain ⟨rfl, rfl⟩ := one_get hx; simp
  · intro i x hx; obtain ⟨rfl, rfl⟩ := thsL r g s b k t e q hx; simp [bL]
  · intro i x hx; obtain ⟨rfl, rfl⟩ := thsL r g s b k t e q hx; simp [bL]
  · intro i x hx j y hy
    obtain ⟨rfl, rfl⟩ := thsL r g s b k t e q hx
    rcases codeL s b k hy with ⟨rfl, rfl⟩ | ⟨rfl, rfl⟩ | ⟨rfl, rfl⟩ | ⟨rfl, rfl⟩ | ⟨rfl, rfl⟩ | ⟨rfl, rfl⟩ <;> simp [m0, m1, m2, m3, m4, i17]

/-- The least sets. -/
def setsL : List (List Nat) := [[1, 1], [1], []]
theorem sub_one {a : Nat} (h : a.testBit 0 = true) : Sub 1 a := fun k hk => by
  match k with
  | 0 => exact h
  | n + 1 => simp [Nat.testBit_succ] at hk
theorem leastL : Least (cL r g s b k t e q) setsL := by
  refine ⟨⟨rfl, fun T hT hC => ?_⟩, ?_⟩
  · have c1 := (hC 0 (bL s b k) rfl 1 m1 rfl).o8 (.inl rfl) rfl
    have c2 := (hC 0 (bL s b k) rfl 2 (m2 b) rfl).o5 rfl rfl
    have c3 := (hC 0 (bL s b k) rfl 3 m3 rfl).o2 rfl rfl
    have d1 : (gR T 0 0).testBit 0 = true := c1
    have d2 : (gR T 1 0).testBit 0 = true := c2 0 (by
      rw [meant_bit]
      exact ⟨0, (by decide : 0 ∈ usesN [⟨2, 0, 0⟩]), d1⟩)
    have d3 : (gR T 0 1).testBit 0 = true := c3 0 d2
    intro i j
    match i, j with
    | 0, 0 => exact sub_one d1
    | 0, 1 => exact sub_one d3
    | 0, n + 2 => exact Sub.zero _
    | 1, 0 => exact sub_one d2
    | 1, n + 1 => exact Sub.zero _
    | 2, j => exact Sub.zero _
    | n + 3, j => exact Sub.zero _
  · intro i x hx j y hy
    obtain ⟨rfl, rfl⟩ := thsL r g s b k t e q hx
    rcases codeL s b k hy with ⟨rfl, rfl⟩ | ⟨rfl, rfl⟩ | ⟨rfl, rfl⟩ | ⟨rfl, rfl⟩ | ⟨rfl, rfl⟩ | ⟨rfl, rfl⟩
    · exact cl_none _ rfl
    · exact ⟨fun h => absurd h (by decide), fun h => absurd h (by decide), fun h => absurd h (by decide), fun h => absurd h (by decide), fun h => absurd h (by decide), fun _ _ => rfl⟩
    · exact ⟨fun h => absurd h (by simp [m2]), fun h => absurd h (by simp [m2]), fun h => absurd h (by simp [m2]), fun _ _ => Sub.refl 1, fun h => absurd h (by simp [m2]), fun h => absurd h (by simp [m2])⟩
    · exact ⟨fun h => absurd h (by decide), fun _ _ => Sub.refl 1, fun h => absurd h (by decide), fun h => absurd h (by decide), fun h => absurd h (by decide), fun h => absurd h (by decide)⟩
    · exact cl_none _ rfl
    · exact cl_none _ rfl

theorem q4ok (w : World) : q4.okW w := ⟨(⟨by decide, by decide⟩ : I64 4), i64z⟩
theorem okL {w : World} (hr : BoxAt w r [nl]) (hg : BoxAt w g q4.cells) (hs : BoxAt w s ([q4, q4].flatMap Loc.cells)) (hb : BoxAt w b [.int .i64 2, .int .i64 0, .int .u64 0]) (hk : BoxAt w k ([m0, m1, m2 b, m3, m4, i17].flatMap Ins.cells)) (ht : BoxAt w t [rowV s 2, rowV k 6, .int .i64 0]) (he : BoxAt w e [.int .i64 0, .int .i64 1, .int .i64 0]) (hq : BoxAt w q [.int .i64 0, .int .i64 0, .int .i64 4]) : (cL r g s b k t e q).okW w := by
  have n0 : I64 0 := i64z
  have N : ∀ a d : Int, I64 a → I64 d → (⟨a, d, 0, 0, 0, 0, [], nl, [], nl⟩ : Ins).okW w := fun a d ha hd => ⟨⟨ha, hd, n0, n0, n0, n0⟩, RowOf.nil _ _ _ _, RowOf.nil _ _ _ _⟩
  have nu : ∀ a : Int, 0 ≤ a → a ≤ 20 → I64 a := fun a h1 h2 => ⟨by omega, by omega⟩
  refine ⟨RowOf.one (cells := Rl.cells) (ok := Rl.okW) (x := ⟨[], nl⟩) hr (RowOf.nil _ _ _ _), RowOf.one (cells := Loc.cells) (ok := Loc.okW) (x := q4) hg (q4ok w), RowOf.one (cells := Bd.cells) (ok := Bd.okW) (x := bL s b k) ht ⟨n0, ?_, ?_⟩, RowOf.one (cells := Ste.cells) (ok := Ste.okW) (x := ⟨0, 1, 0⟩) he ⟨n0, nu 1 (by decide) (by decide), n0⟩, RowOf.one (cells := Sec.cells) (ok := Sec.okW) (x := ⟨0, 0, 4⟩) hq ⟨n0, n0, nu 4 (by decide) (by decide)⟩⟩
  · exact RowOf.box [q4, q4] (fun x hx => rfl) hs (by decide) (by decide) (fun x hx => by
      have : x = q4 := by simpa using hx
      rw [this]; exact q4ok w)
  · refine RowOf.box [m0, m1, m2 b, m3, m4, i17] (fun x hx => rfl) hk (by simp) (by simp [maxLen]) (fun x hx => ?_)
    have : x = m0 ∨ x = m1 ∨ x = m2 b ∨ x = m3 ∨ x = m4 ∨ x = i17 := by simpa using hx
    rcases this with rfl | rfl | rfl | rfl | rfl | rfl
    · exact N 15 0 (nu _ (by decide) (by decide)) n0
    · exact N 8 0 (nu _ (by decide) (by decide)) n0
    · exact ⟨⟨nu 5 (by decide) (by decide), n0, n0, n0, n0, n0⟩, RowOf.one (cells := Itm.cells) (ok := Itm.okW) (x := ⟨2, 0, 0⟩) hb ((⟨by decide, by decide, by decide, by decide, by decide⟩ : Itm.ok ⟨2, 0, 0⟩)), RowOf.nil _ _ _ _⟩
    · exact N 2 1 (nu _ (by decide) (by decide)) (nu _ (by decide) (by decide))
    · exact N 16 0 (nu _ (by decide) (by decide)) n0
    · exact N 17 0 (nu _ (by decide) (by decide)) n0
end

/-! The example's memory. -/
def lw1 (w : World) : World := World.alloc (w) (.cells #[nl] 23)
def lw2 (w : World) : World := World.alloc (lw1 w) (.cells #[.int .i64 4, .int .i64 0, .bool false] 56)
def lw3 (w : World) : World := World.alloc (lw2 w) (.cells #[.int .i64 4, .int .i64 0, .bool false, .int .i64 4, .int .i64 0, .bool false] 56)
def lw4 (w : World) : World := World.alloc (lw3 w) (.cells #[.int .i64 2, .int .i64 0, .int .u64 0] 52)
def lw5 (w : World) : World := World.alloc (lw4 w) (.cells ([m0, m1, m2 (w.heap.size + 1 + 1 + 1), m3, m4, i17].flatMap Ins.cells).toArray 50)
def lw6 (w : World) : World := World.alloc (lw5 w) (.cells #[rowV (w.heap.size + 1 + 1) 2, rowV (w.heap.size + 1 + 1 + 1 + 1) 6, .int .i64 0] 40)
def lw7 (w : World) : World := World.alloc (lw6 w) (.cells #[.int .i64 0, .int .i64 1, .int .i64 0] 43)
def lw8 (w : World) : World := World.alloc (lw7 w) (.cells #[.int .i64 0, .int .i64 0, .int .i64 4] 58)
def lw9 (w : World) : World := World.alloc (lw8 w) (.cells #[rowV (w.heap.size) 1, rowV (w.heap.size + 1) 1, rowV (w.heap.size + 1 + 1 + 1 + 1 + 1) 1, rowV (w.heap.size + 1 + 1 + 1 + 1 + 1 + 1) 1, rowV (w.heap.size + 1 + 1 + 1 + 1 + 1 + 1 + 1) 1] 28)
theorem ls1 (w : World) : (lw1 w).heap.size = w.heap.size + 1 := (World.size_alloc _ _).trans (by rfl)
theorem ls2 (w : World) : (lw2 w).heap.size = w.heap.size + 1 + 1 := (World.size_alloc _ _).trans (by rw [ls1])
theorem ls3 (w : World) : (lw3 w).heap.size = w.heap.size + 1 + 1 + 1 := (World.size_alloc _ _).trans (by rw [ls2])
theorem ls4 (w : World) : (lw4 w).heap.size = w.heap.size + 1 + 1 + 1 + 1 := (World.size_alloc _ _).trans (by rw [ls3])
theorem ls5 (w : World) : (lw5 w).heap.size = w.heap.size + 1 + 1 + 1 + 1 + 1 := (World.size_alloc _ _).trans (by rw [ls4])
theorem ls6 (w : World) : (lw6 w).heap.size = w.heap.size + 1 + 1 + 1 + 1 + 1 + 1 := (World.size_alloc _ _).trans (by rw [ls5])
theorem ls7 (w : World) : (lw7 w).heap.size = w.heap.size + 1 + 1 + 1 + 1 + 1 + 1 + 1 := (World.size_alloc _ _).trans (by rw [ls6])
theorem ls8 (w : World) : (lw8 w).heap.size = w.heap.size + 1 + 1 + 1 + 1 + 1 + 1 + 1 + 1 := (World.size_alloc _ _).trans (by rw [ls7])
theorem ls9 (w : World) : (lw9 w).heap.size = w.heap.size + 1 + 1 + 1 + 1 + 1 + 1 + 1 + 1 + 1 := (World.size_alloc _ _).trans (by rw [ls8])
def exL (w : World) : Cd := cL (w.heap.size) (w.heap.size + 1) (w.heap.size + 1 + 1) (w.heap.size + 1 + 1 + 1) (w.heap.size + 1 + 1 + 1 + 1) (w.heap.size + 1 + 1 + 1 + 1 + 1) (w.heap.size + 1 + 1 + 1 + 1 + 1 + 1) (w.heap.size + 1 + 1 + 1 + 1 + 1 + 1 + 1)
theorem lx0 (w : World) : BoxAt (lw9 w) (w.heap.size) [nl] := by
  have h1 : BoxAt (lw1 w) _ [nl] := BoxAt.new (w) #[nl] 23
  have h2 : BoxAt (lw2 w) _ [nl] := h1.past _
  have h3 : BoxAt (lw3 w) _ [nl] := h2.past _
  have h4 : BoxAt (lw4 w) _ [nl] := h3.past _
  have h5 : BoxAt (lw5 w) _ [nl] := h4.past _
  have h6 : BoxAt (lw6 w) _ [nl] := h5.past _
  have h7 : BoxAt (lw7 w) _ [nl] := h6.past _
  have h8 : BoxAt (lw8 w) _ [nl] := h7.past _
  have h9 : BoxAt (lw9 w) _ [nl] := h8.past _
  exact h9
theorem lx1 (w : World) : BoxAt (lw9 w) (w.heap.size + 1) [.int .i64 4, .int .i64 0, .bool false] := by
  have h2 : BoxAt (lw2 w) _ [.int .i64 4, .int .i64 0, .bool false] := BoxAt.new (lw1 w) #[.int .i64 4, .int .i64 0, .bool false] 56
  rw [ls1] at h2
  have h3 : BoxAt (lw3 w) _ [.int .i64 4, .int .i64 0, .bool false] := h2.past _
  have h4 : BoxAt (lw4 w) _ [.int .i64 4, .int .i64 0, .bool false] := h3.past _
  have h5 : BoxAt (lw5 w) _ [.int .i64 4, .int .i64 0, .bool false] := h4.past _
  have h6 : BoxAt (lw6 w) _ [.int .i64 4, .int .i64 0, .bool false] := h5.past _
  have h7 : BoxAt (lw7 w) _ [.int .i64 4, .int .i64 0, .bool false] := h6.past _
  have h8 : BoxAt (lw8 w) _ [.int .i64 4, .int .i64 0, .bool false] := h7.past _
  have h9 : BoxAt (lw9 w) _ [.int .i64 4, .int .i64 0, .bool false] := h8.past _
  exact h9
theorem lx2 (w : World) : BoxAt (lw9 w) (w.heap.size + 1 + 1) [.int .i64 4, .int .i64 0, .bool false, .int .i64 4, .int .i64 0, .bool false] := by
  have h3 : BoxAt (lw3 w) _ [.int .i64 4, .int .i64 0, .bool false, .int .i64 4, .int .i64 0, .bool false] := BoxAt.new (lw2 w) #[.int .i64 4, .int .i64 0, .bool false, .int .i64 4, .int .i64 0, .bool false] 56
  rw [ls2] at h3
  have h4 : BoxAt (lw4 w) _ [.int .i64 4, .int .i64 0, .bool false, .int .i64 4, .int .i64 0, .bool false] := h3.past _
  have h5 : BoxAt (lw5 w) _ [.int .i64 4, .int .i64 0, .bool false, .int .i64 4, .int .i64 0, .bool false] := h4.past _
  have h6 : BoxAt (lw6 w) _ [.int .i64 4, .int .i64 0, .bool false, .int .i64 4, .int .i64 0, .bool false] := h5.past _
  have h7 : BoxAt (lw7 w) _ [.int .i64 4, .int .i64 0, .bool false, .int .i64 4, .int .i64 0, .bool false] := h6.past _
  have h8 : BoxAt (lw8 w) _ [.int .i64 4, .int .i64 0, .bool false, .int .i64 4, .int .i64 0, .bool false] := h7.past _
  have h9 : BoxAt (lw9 w) _ [.int .i64 4, .int .i64 0, .bool false, .int .i64 4, .int .i64 0, .bool false] := h8.past _
  exact h9
theorem lx3 (w : World) : BoxAt (lw9 w) (w.heap.size + 1 + 1 + 1) [.int .i64 2, .int .i64 0, .int .u64 0] := by
  have h4 : BoxAt (lw4 w) _ [.int .i64 2, .int .i64 0, .int .u64 0] := BoxAt.new (lw3 w) #[.int .i64 2, .int .i64 0, .int .u64 0] 52
  rw [ls3] at h4
  have h5 : BoxAt (lw5 w) _ [.int .i64 2, .int .i64 0, .int .u64 0] := h4.past _
  have h6 : BoxAt (lw6 w) _ [.int .i64 2, .int .i64 0, .int .u64 0] := h5.past _
  have h7 : BoxAt (lw7 w) _ [.int .i64 2, .int .i64 0, .int .u64 0] := h6.past _
  have h8 : BoxAt (lw8 w) _ [.int .i64 2, .int .i64 0, .int .u64 0] := h7.past _
  have h9 : BoxAt (lw9 w) _ [.int .i64 2, .int .i64 0, .int .u64 0] := h8.past _
  exact h9
theorem lx4 (w : World) : BoxAt (lw9 w) (w.heap.size + 1 + 1 + 1 + 1) ([m0, m1, m2 (w.heap.size + 1 + 1 + 1), m3, m4, i17].flatMap Ins.cells) := by
  have h5 : BoxAt (lw5 w) _ ([m0, m1, m2 (w.heap.size + 1 + 1 + 1), m3, m4, i17].flatMap Ins.cells) := BoxAt.new (lw4 w) ([m0, m1, m2 (w.heap.size + 1 + 1 + 1), m3, m4, i17].flatMap Ins.cells).toArray 50
  rw [ls4] at h5
  have h6 : BoxAt (lw6 w) _ ([m0, m1, m2 (w.heap.size + 1 + 1 + 1), m3, m4, i17].flatMap Ins.cells) := h5.past _
  have h7 : BoxAt (lw7 w) _ ([m0, m1, m2 (w.heap.size + 1 + 1 + 1), m3, m4, i17].flatMap Ins.cells) := h6.past _
  have h8 : BoxAt (lw8 w) _ ([m0, m1, m2 (w.heap.size + 1 + 1 + 1), m3, m4, i17].flatMap Ins.cells) := h7.past _
  have h9 : BoxAt (lw9 w) _ ([m0, m1, m2 (w.heap.size + 1 + 1 + 1), m3, m4, i17].flatMap Ins.cells) := h8.past _
  exact h9
theorem lx5 (w : World) : BoxAt (lw9 w) (w.heap.size + 1 + 1 + 1 + 1 + 1) [rowV (w.heap.size + 1 + 1) 2, rowV (w.heap.size + 1 + 1 + 1 + 1) 6, .int .i64 0] := by
  have h6 : BoxAt (lw6 w) _ [rowV (w.heap.size + 1 + 1) 2, rowV (w.heap.size + 1 + 1 + 1 + 1) 6, .int .i64 0] := BoxAt.new (lw5 w) #[rowV (w.heap.size + 1 + 1) 2, rowV (w.heap.size + 1 + 1 + 1 + 1) 6, .int .i64 0] 40
  rw [ls5] at h6
  have h7 : BoxAt (lw7 w) _ [rowV (w.heap.size + 1 + 1) 2, rowV (w.heap.size + 1 + 1 + 1 + 1) 6, .int .i64 0] := h6.past _
  have h8 : BoxAt (lw8 w) _ [rowV (w.heap.size + 1 + 1) 2, rowV (w.heap.size + 1 + 1 + 1 + 1) 6, .int .i64 0] := h7.past _
  have h9 : BoxAt (lw9 w) _ [rowV (w.heap.size + 1 + 1) 2, rowV (w.heap.size + 1 + 1 + 1 + 1) 6, .int .i64 0] := h8.past _
  exact h9
theorem lx6 (w : World) : BoxAt (lw9 w) (w.heap.size + 1 + 1 + 1 + 1 + 1 + 1) [.int .i64 0, .int .i64 1, .int .i64 0] := by
  have h7 : BoxAt (lw7 w) _ [.int .i64 0, .int .i64 1, .int .i64 0] := BoxAt.new (lw6 w) #[.int .i64 0, .int .i64 1, .int .i64 0] 43
  rw [ls6] at h7
  have h8 : BoxAt (lw8 w) _ [.int .i64 0, .int .i64 1, .int .i64 0] := h7.past _
  have h9 : BoxAt (lw9 w) _ [.int .i64 0, .int .i64 1, .int .i64 0] := h8.past _
  exact h9
theorem lx7 (w : World) : BoxAt (lw9 w) (w.heap.size + 1 + 1 + 1 + 1 + 1 + 1 + 1) [.int .i64 0, .int .i64 0, .int .i64 4] := by
  have h8 : BoxAt (lw8 w) _ [.int .i64 0, .int .i64 0, .int .i64 4] := BoxAt.new (lw7 w) #[.int .i64 0, .int .i64 0, .int .i64 4] 58
  rw [ls7] at h8
  have h9 : BoxAt (lw9 w) _ [.int .i64 0, .int .i64 0, .int .i64 4] := h8.past _
  exact h9
theorem live_ok (w : World) : (exL w).okW (lw9 w) ∧ VarAt (lw9 w) (w.heap.size + 1 + 1 + 1 + 1 + 1 + 1 + 1 + 1) (exL w).cells 28 ∧ Below w.heap.size w (lw9 w) := by
  have h0 := lx0 w
  have h1 := lx1 w
  have h2 := lx2 w
  have h3 := lx3 w
  have h4 := lx4 w
  have h5 := lx5 w
  have h6 := lx6 w
  have h7 := lx7 w
  have hv : VarAt (lw9 w) ((lw8 w).heap.size) (exL w).cells 28 := VarAt.new (lw8 w) (exL w).cells 28
  rw [ls8] at hv
  refine ⟨okL _ _ _ _ _ _ _ _ h0 h1 h2 h3 h4 h5 h6 h7, hv, ?_⟩
  have b0 := Below.refl w.heap.size w
  have b1 : Below w.heap.size w (lw1 w) := b0.alloc (by exact Nat.le_refl _) _
  have b2 : Below w.heap.size w (lw2 w) := b1.alloc (by rw [ls1]; omega) _
  have b3 : Below w.heap.size w (lw3 w) := b2.alloc (by rw [ls2]; omega) _
  have b4 : Below w.heap.size w (lw4 w) := b3.alloc (by rw [ls3]; omega) _
  have b5 : Below w.heap.size w (lw5 w) := b4.alloc (by rw [ls4]; omega) _
  have b6 : Below w.heap.size w (lw6 w) := b5.alloc (by rw [ls5]; omega) _
  have b7 : Below w.heap.size w (lw7 w) := b6.alloc (by rw [ls6]; omega) _
  have b8 : Below w.heap.size w (lw8 w) := b7.alloc (by rw [ls7]; omega) _
  have b9 : Below w.heap.size w (lw9 w) := b8.alloc (by rw [ls8]; omega) _
  exact b9
theorem live_step {C : Code} {Q : Exit → Act → World → Prop} {a : Act} {w : World} (h : ∀ X, (exL w).okW X → VarAt X (w.heap.size + 1 + 1 + 1 + 1 + 1 + 1 + 1 + 1) (exL w).cells 28 → Below w.heap.size w X → X.heap.size = w.heap.size + 1 + 1 + 1 + 1 + 1 + 1 + 1 + 1 + 1 → C.wp Tryd.prog Q a X) : C.wp Tryd.prog Q a (lw9 w) :=
  h _ (live_ok w).1 (live_ok w).2.1 (live_ok w).2.2 (ls9 w)

/-- What the example's sets are, read again. -/
theorem SL3 {y z : World} {base top : Nat} {o : Obj} {u0 u1 u2 : Value} {V : Nat → Value} {B : Nat → Nat} (hs : SetsM y base top 1 1 u0 u1 u2 setsL V B) (hv : VarAt z y.heap.size [u0, u1, u2] 35) (ht : Turned y.heap.size (y.alloc o) z) :
    ∃ (oa oo cq : Nat) (ga : Nat) (gc : Nat) (qa cc : Nat), u0 = .slice (some ⟨oa, oo, none⟩) 1 cq ∧ u1 = .slice (some ⟨ga, 0, none⟩) 1 gc ∧ z.cell? ⟨oa, oo, none⟩ = some (.slice (some ⟨qa, 0, none⟩) 2 cc) ∧ z.cell? ⟨qa, 0, none⟩ = some (.int .u64 1) ∧ z.cell? ⟨qa, 1, none⟩ = some (.int .u64 1) ∧ z.cell? ⟨ga, 0, none⟩ = some (.int .u64 1) ∧ True := by
  have ba := (Below.refl y.heap.size y).alloc (Nat.le_refl _) o
  have bz : Below y.heap.size y z := ht.below ba (Nat.le_refl _)
  have hz := hs.kept bz
  obtain ⟨ob, oo, oc, a, cp, e0, -, -, -, c0, -, h0⟩ := hz.rowT (i := 0) (by decide)
  obtain ⟨rfl, -, z0⟩ := h0 0 (by decide)
  obtain ⟨-, -, z1⟩ := h0 1 (by decide)
  obtain ⟨ag, cg, e1, h1⟩ := hz.rowGl
  obtain ⟨rfl, -, z2⟩ := h1 0 (by decide)
  exact ⟨ob, oo, oc, B 1, cg, B 0, cp, e0, e1, c0, z0, z1, z2, trivial⟩

set_option maxRecDepth 100000 in
set_option maxHeartbeats 2000000 in
theorem alive_any (w : World) (hTab : Tab w) : Calls Tryd.prog 8 #[] w fun e w' => e = .returned (.bool true) ∧ Below w.heap.size w w' := by
  go_enter Tryd.func8, Tryd.ntmps8
  refine wp_seq_k (fun K hK => ?_)
  replace hK := hid hK
  go_wp2_with fail
  refine hK.out _ _ ?_
  clear hK K
  refine wp_seq_k (fun K hK => ?_)
  replace hK := hid hK
  go_wp2_with fail
  refine hK.out _ _ ?_
  clear hK K
  refine live_step (w := w) ?_
  intro X ok vx bx sx
  have CS := fun Y (hY : Below X.heap.size X Y) => solve_any (exL w) Y (Cd.kept ok hY) (smallL _ _ _ _ _ _ _ _) ((hTab.below bx hTab.lt).kept hY)
  replace CS := hid CS
  have G := hid (goodL w.heap.size (w.heap.size + 1) (w.heap.size + 1 + 1) (w.heap.size + 1 + 1 + 1) (w.heap.size + 1 + 1 + 1 + 1) (w.heap.size + 1 + 1 + 1 + 1 + 1) (w.heap.size + 1 + 1 + 1 + 1 + 1 + 1) (w.heap.size + 1 + 1 + 1 + 1 + 1 + 1 + 1))
  have L := hid (leastL w.heap.size (w.heap.size + 1) (w.heap.size + 1 + 1) (w.heap.size + 1 + 1 + 1) (w.heap.size + 1 + 1 + 1 + 1) (w.heap.size + 1 + 1 + 1 + 1 + 1) (w.heap.size + 1 + 1 + 1 + 1 + 1 + 1) (w.heap.size + 1 + 1 + 1 + 1 + 1 + 1 + 1))
  obtain ⟨y0, y1, y2, y3, y4⟩ := cells5 vx
  have BX := hid bx
  replace hTab := hid hTab
  clear ok vx bx
  go_wp2_with (first
    | (go_at_call 11; refine Calls.mono (CS.out _ (Below.refl _ _)) ?_; rintro _ y ⟨u0, u1, u2, rfl, bl, hg, -⟩; obtain ⟨R, V, B, sm, le⟩ := hg G.out; obtain rfl := le.one L.out; have VS := hid (VarAt.new y [.slice none 0 0, .slice none 0 0, .slice none 0 0] 35); have BL := hid bl; have SM := hid sm; obtain ⟨s0, n0, q0, s1, n1, q1, s2, n2, q2, rfl, rfl, rfl⟩ := sm.ones; clear sm bl le hg CS y0 y1 y2 y3 y4)
    | (refine wl_store_box 35 _ _ rfl rfl _ rfl [.slice s0 n0 q0, .slice s1 n1 q1, .slice s2 n2 q2] rfl size35 (ones3 rfl rfl rfl) _ _ VS.out rfl rfl ?_; intro z hv ht; have s := SL3 SM.out hv ht; obtain ⟨oa, oo, cq, ga, gc, qa, cc, e0, e1, x0, x1, x2, x3, x4⟩ := s; cases e0; cases e1; have o0 := hv.cell 0 rfl; have o1 := hv.cell 1 rfl; have BZ := hid (ht.below ((BX.out.trans (BL.out.mono BX.out.size)).alloc (Nat.le_trans BX.out.size BL.out.size) _) (Nat.le_trans BX.out.size BL.out.size)); clear hv ht VS SM BL BX))
  go_ret
  exact ⟨rfl, BZ.out⟩
end Go.Proofs.YtkdpcaoocmbbhaaDoor
