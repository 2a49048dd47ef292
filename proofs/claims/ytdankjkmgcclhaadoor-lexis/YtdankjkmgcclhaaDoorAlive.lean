/- Rows of tokens, as they are read, and the contract of the laws' alive. -/
import Derived.Test.YtdankjkmgcclhaaDoorLex
namespace Go.Proofs.YtdankjkmgcclhaaDoor
open Go.ChangeShapes Go.WideShapes Go.ChangeAt Go.RowKit
set_option linter.unusedVariables false

theorem cellsT_get (ts : List Tok) (i j : Nat) (t : Tok) (u : Value) (hi : ts[i]? = some t) (hj : t.cells[j]? = some u) : (cellsT ts)[i * 5 + j]? = some u := by
  have hj5 : j < 5 := (List.getElem?_eq_some_iff.1 hj).1
  induction ts generalizing i with
  | nil => simp at hi
  | cons a ts ih =>
    have e : cellsT (a :: ts) = a.cells ++ cellsT ts := rfl
    rw [e]
    cases i with
    | zero =>
      simp only [List.getElem?_cons_zero, Option.some.injEq] at hi
      subst hi
      rw [Nat.zero_mul, Nat.zero_add, List.getElem?_append_left (by rw [cells_len]; exact hj5)]
      exact hj
    | succ i =>
      rw [List.getElem?_append_right (by rw [cells_len]; omega), cells_len, show (i + 1) * 5 + j - 5 = i * 5 + j by omega]
      exact ih i (by simpa using hi)

/-- Tokens lie in a block, one behind the other. -/
def RowAt (w : World) (g : Nat) (ts : List Tok) : Prop := ∀ i t, ts[i]? = some t → ∀ j u, t.cells[j]? = some u → w.cell? ⟨g, i * 5 + j, none⟩ = some u

theorem rowAt_of {w : World} {base : Nat} {v : Value} {n : Nat} {ts : List Tok} (h : w.ownsRow base 35 5 v n (cellsT ts)) {g : Nat} (hg : v.ownBlock = some g) : RowAt w g ts := by
  intro i t hi j u hj
  have := h.cells hg (i * 5 + j) u (cellsT_get ts i j t u hi hj)
  rwa [Addr.add_lit, Nat.zero_add] at this

/-- A row that holds something is one. -/
theorem row_slice {w : World} {base : Nat} {v : Value} {n : Nat} {xs : List Value} (h : w.ownsRow base 35 5 v n xs) (hn : 0 < n) : ∃ g c, v = .slice (some ⟨g, 0, none⟩) n c ∧ base ≤ g ∧ g < w.heap.size := by
  rcases h.2 with ⟨_, rfl⟩ | ⟨g, cap, cur, hv, hb, hg, _⟩
  · omega
  · exact ⟨g, cap, hv, hb, (Array.getElem?_eq_some_iff.1 hg).1⟩

theorem RowAt.kept {w w' : World} {g : Nat} {ts : List Tok} (h : RowAt w g ts) (hg : g < w.heap.size) (b : Below w.heap.size w w') : RowAt w' g ts := fun i t hi j u hj =>
  (b.cell (p := ⟨g, i * 5 + j, none⟩) hg).trans (h i t hi j u hj)

theorem alive1 : lexL [120, 49, 60, 61, 50] = .ok [⟨1, [120, 49], 0, 1, 1⟩, ⟨5, [60, 61], 0, 1, 3⟩, ⟨3, [50], 2, 1, 5⟩, ⟨0, [], 0, 1, 6⟩] := by kernel_rfl
theorem alive2 : lexL [32, 49, 120] = .error (1, 2) := by kernel_rfl

set_option maxRecDepth 100000 in
set_option maxHeartbeats 4000000 in
theorem alive_any (w : World) (h : Errs w) (h' : Signs w) : Calls Tryd.prog 9 #[] w fun e w' => e = .returned (.bool true) ∧ Below w.heap.size w w' := by
  have A : Calls Tryd.prog 10 #[.string { data := #[120, 49, 60, 61, 50] }] w fun e w' => ∃ r, e = .returned r ∧ LexAns [120, 49, 60, 61, 50] w.heap.size w' r ∧ Below w.heap.size w w' := lex_any [120, 49, 60, 61, 50] (by decide) w h h'
  have B : ∀ W, Errs W → Signs W → Calls Tryd.prog 10 #[.string { data := #[32, 49, 120] }] W fun e w' => ∃ r, e = .returned r ∧ LexAns [32, 49, 120] W.heap.size w' r ∧ Below W.heap.size W w' := fun W hW hW' => lex_any [32, 49, 120] (by decide) W hW hW'
  have D : ∀ W, Calls Tryd.prog 14 #[.string { data := #[108, 111, 111, 112] }] W fun e w' => e = .returned (.bool true) ∧ w' = W := fun W => isWord_any { data := #[108, 111, 111, 112] } W
  go_enter Tryd.func9, Tryd.ntmps9
  go_wp2_with fail
  refine A.mono ?_
  rintro e w1 ⟨r, rfl, ha, b1⟩
  rw [LexAns, alive1] at ha
  obtain ⟨v, rfl, own⟩ := ha
  obtain ⟨g, c, rfl, hg1, hg2⟩ := row_slice own (by decide)
  have R1 := rowAt_of own rfl
  have hv : faultV 0 0 0 = .agg #[.int .i64 0, .int .i64 0, .int .i64 0] := rfl
  rw [hv]
  clear own A
  have bA : ∀ o, Below w.heap.size w (w1.alloc o) := fun o => b1.alloc b1.size o
  have B := fun o => B (w1.alloc o) (h.kept (bA o)) (h'.kept (bA o))
  have hbA := hid bA
  have hb1 := hid b1
  have hR1 := hid R1
  clear bA b1 R1
  go_wp2_with fail
  refine (B _).mono ?_
  rintro e w2 ⟨r, rfl, ha, b2⟩
  rw [LexAns, alive2] at ha
  subst ha
  have hv2 : faultV 3 1 2 = .agg #[.int .i64 3, .int .i64 1, .int .i64 2] := rfl
  rw [hv2]
  have kA : ∀ o, Below (w1.alloc (.cells #[.int .i64 0, .int .i64 0, .int .i64 0] 26)).heap.size (w1.alloc (.cells #[.int .i64 0, .int .i64 0, .int .i64 0] 26)) (w2.alloc o) := fun o => b2.alloc b2.size o
  have kF : ∀ o, Blk (w2.alloc o) w1.heap.size #[.int .i64 0, .int .i64 0, .int .i64 0] 26 := fun o => (Blk.new w1 _ 26).kept (kA o)
  have kR : ∀ o, RowAt (w2.alloc o) g _ := fun o => (hR1.out.kept hg2 ((Below.refl _ _).alloc (Nat.le_refl _) _)).kept (by rw [World.size_alloc]; omega) (kA o)
  have f0 : ∀ o, (w2.alloc o).cell? ⟨w1.heap.size, 0, none⟩ = some (.int .i64 0) := fun o => (kF o).cell 0
  have f1 : ∀ o, (w2.alloc o).cell? ⟨w1.heap.size, 1, none⟩ = some (.int .i64 0) := fun o => (kF o).cell 1
  have f2 : ∀ o, (w2.alloc o).cell? ⟨w1.heap.size, 2, none⟩ = some (.int .i64 0) := fun o => (kF o).cell 2
  have r0 : ∀ o, (w2.alloc o).cell? ⟨g, 0, none⟩ = some (.int .i64 1) := fun o => kR o 0 _ rfl 0 _ rfl
  have r1 : ∀ o, (w2.alloc o).cell? ⟨g, 6, none⟩ = some (.string (bstr [60, 61])) := fun o => kR o 1 _ rfl 1 _ rfl
  have r2 : ∀ o, (w2.alloc o).cell? ⟨g, 12, none⟩ = some (.int .u64 2) := fun o => kR o 2 _ rfl 2 _ rfl
  have r3 : ∀ o, (w2.alloc o).cell? ⟨g, 14, none⟩ = some (.int .i64 5) := fun o => kR o 2 _ rfl 4 _ rfl
  have q1 : ((bstr [60, 61]).toList == [60, 61]) = true := by rw [toList_bstr]; rfl
  have kA := hid kA
  clear B kF kR b2 hv hv2
  go_wp2_with (go_at_call 14; refine (D _).mono ?_; rintro e w' ⟨rfl, rfl⟩)
  go_ret
  exact ⟨rfl, Below.over (hbA.out _) (kA.out _)⟩
end Go.Proofs.YtdankjkmgcclhaaDoor
