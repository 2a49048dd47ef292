/- Steps; the contract of meant. -/
import Derived.Test.YtkdpcaoocmbbhaaDoorSx
namespace Go.Proofs.YtkdpcaoocmbbhaaDoor
open Go.ChangeShapes Go.WideShapes Go.ChangeAt Go.RowKit
set_option linter.unusedVariables false
set_option linter.unusedSimpArgs false

/-- A row of slots' numbers, above a block. -/
def NumsM (w : World) (lo hi : Nat) (v : Value) (l : List Nat) : Prop :=
  ∃ a c, v = .slice a l.length c ∧ ∀ q, q < l.length → ∃ b, a = some ⟨b, 0, none⟩ ∧ lo ≤ b ∧ b < hi ∧ b < w.heap.size ∧ w.cell? ⟨b, q, none⟩ = some (.int .i64 ((l.getD q 0 : Nat) : Int))
theorem NumsM.touch {T : Nat → Prop} {w w' : World} {lo hi : Nat} {v : Value} {l : List Nat} (h : NumsM w lo hi v l) (k : Touch T w w') (hT : ∀ b, lo ≤ b → b < hi → ¬ T b) : NumsM w' lo hi v l := by
  obtain ⟨a, c, e, h⟩ := h
  refine ⟨a, c, e, fun q hq => ?_⟩
  obtain ⟨b, h1, h2, h2', h3, h4⟩ := h q hq
  exact ⟨b, h1, h2, h2', Nat.lt_of_lt_of_le h3 k.size, by rw [World.cell?_of_block (k.block b h3 (hT b h2 h2'))]; exact h4⟩
theorem NumsM.kept {w w' : World} {lo hi : Nat} {v : Value} {l : List Nat} (h : NumsM w lo hi v l) (k : Below w.heap.size w w') : NumsM w' lo hi v l :=
  h.touch (T := fun _ => False) (Touch.of_below k) (fun _ _ _ q => q)
theorem NumsM.mono {w : World} {lo hi hi' : Nat} {v : Value} {l : List Nat} (h : NumsM w lo hi v l) (hh : hi ≤ hi') : NumsM w lo hi' v l := by
  obtain ⟨a, c, e, h⟩ := h
  refine ⟨a, c, e, fun q hq => ?_⟩
  obtain ⟨b, h1, h2, h2', h3, h4⟩ := h q hq
  exact ⟨b, h1, h2, by omega, h3, h4⟩

/-- A step: an instruction, its thread, the slots that its items name. -/
structure Stp where
  x : Ins
  i : Nat
  l : List Nat
  v : Value
def Stp.cells (s : Stp) : List Value := [.int .i64 s.x.op, .int .i64 s.x.dst, .int .i64 s.x.src, .int .i64 s.x.rc, .int .i64 s.x.n, .int .i64 s.x.to, s.x.iv, s.x.xv, .int .i64 (s.i : Int), s.v]

/-- The solver's box, and the sets. -/
structure Sol (W : World) (sb base top : Nat) (c : Cd) (v0 v1 v2 : Value) (g : Bool) (R : List (List Nat)) (V : Nat → Value) (B : Nat → Nat) : Prop where
  box : VarAt W sb [c.rv, c.gv, c.tv, c.ev, c.cv, v0, v1, v2, .bool g] 60
  sets : SetsM W base top c.threads.length c.sites.length v0 v1 v2 R V B
  above : (top ≤ sb ∨ sb < base) ∧ top ≤ W.heap.size
theorem Sol.touch {T : Nat → Prop} {W W' : World} {sb base top : Nat} {c : Cd} {v0 v1 v2 : Value} {g : Bool} {R : List (List Nat)} {V : Nat → Value} {B : Nat → Nat} (h : Sol W sb base top c v0 v1 v2 g R V B) (k : Touch T W W') (h1 : ∀ b, base ≤ b → b < top → ¬ T b) (h2 : ¬ T sb) : Sol W' sb base top c v0 v1 v2 g R V B :=
  ⟨h.box.touch k h2, h.sets.touch k h1, h.above.1, Nat.le_trans h.above.2 k.size⟩
theorem Sol.kept {W W' : World} {sb base top : Nat} {c : Cd} {v0 v1 v2 : Value} {g : Bool} {R : List (List Nat)} {V : Nat → Value} {B : Nat → Nat} (h : Sol W sb base top c v0 v1 v2 g R V B) (k : Below W.heap.size W W') : Sol W' sb base top c v0 v1 v2 g R V B :=
  h.touch (T := fun _ => False) (Touch.of_below k) (fun _ _ _ q => q) (fun q => q)

theorem meant_zero (R : List (List Nat)) (i : Nat) : meant R i [] = 0 := rfl
theorem take_snoc {α : Type} (l : List α) (j : Nat) (d : α) (h : j < l.length) : l.take (j + 1) = l.take j ++ [l.getD j d] := by
  rw [List.take_add_one, List.getElem?_eq_getElem h]
  simp [List.getD, h]

set_option maxRecDepth 100000 in
set_option maxHeartbeats 1000000 in
theorem meant_any (sb base top lo hi : Nat) (c : Cd) (v0 v1 v2 : Value) (g : Bool) (R : List (List Nat)) (V : Nat → Value) (B : Nat → Nat) (s : Stp) (W : World) (h : Sol W sb base top c v0 v1 v2 g R V B) (hU : AllU R)
    (hti : s.i < c.threads.length) (hn : NumsM W lo hi s.v s.l) (hl : ∀ q ∈ s.l, q < (R.getD s.i []).length) (hlen : s.l.length ≤ 1000) :
    Calls Tryd.prog 41 #[.pointer (some ⟨sb, 0, none⟩), .agg s.cells.toArray] W fun e W' => e = .returned (.int .u64 ((meant R s.i s.l : Nat) : Int)) ∧ Below W.heap.size W W' := by
  obtain ⟨x, i, l, v⟩ := s
  simp only at *
  obtain ⟨na, nc, rfl, hnn⟩ := hn
  have c5 := h.box.cell 5 (v := v0) rfl
  obtain ⟨oa, oc, e0, ho⟩ := h.sets.o0
  obtain ⟨ob, ooff, e1, o2, o3, o4, o5, o6⟩ := ho i hti
  subst e1
  have hsb := h.box.lt
  generalize hm : l.length = m at *
  have A : Hid (∀ q, q < m → ∃ nb s : Nat, na = some ⟨nb, 0, none⟩ ∧ l.getD q 0 = s ∧ nb < W.heap.size ∧ W.cell? ⟨nb, q, none⟩ = some (.int .i64 (s : Int)) ∧ s < (R.getD i []).length ∧ ∃ p cp, V i = .slice (some ⟨B i, 0, none⟩) (R.getD i []).length cp ∧ B i < W.heap.size ∧ W.cell? ⟨B i, s, none⟩ = some (.int .u64 ((gR R i s : Nat) : Int)) ∧ p = gR R i s) := hid (fun q hq => by
    obtain ⟨nb, h1, h2, _, h3, h4⟩ := hnn q hq
    have hs := hl (l.getD q 0) (by simp [List.getD, show q < l.length by omega])
    obtain ⟨cp, k1, k2, k3, k4, k5⟩ := h.sets.at (r := i) (j := l.getD q 0) hs
    exact ⟨nb, l.getD q 0, h1, rfl, h3, h4, hs, _, cp, k1, k2.lt, k5, rfl⟩)
  have M : Hid (∀ q, q < m → meant R i (l.take (q + 1)) = meant R i (l.take q) ||| gR R i (l.getD q 0)) := hid (fun q hq => by rw [take_snoc l q 0 (by omega), meant_snoc])
  have U : Hid (∀ q, meant R i (l.take q) < 2 ^ 64) := hid (fun q => meant_lt hU _ _)
  have U2 : Hid (AllU R) := hid hU
  have L : Hid (l.take m = l) := hid (List.take_of_length_le (by omega))
  obtain ⟨op, dst, src, rc, n, tt, its, iv, idx, xv⟩ := x
  clear h ho hnn hl hU hm
  subst e0
  simp only [Stp.cells]
  go_enter Tryd.func41, Tryd.ntmps41
  go_wp2_with fail
  generalize hlt : (List.length c.threads) = nT at *
  go_loopw [5, 11] (fun a t wr => ∃ q : Nat, t = .int .i64 q ∧ q ≤ m ∧ a = .int .u64 ((meant R i (l.take q) : Nat) : Int) ∧ Hid (Below W.heap.size W wr) ∧ wr.cell? ⟨W.heap.size, 8, none⟩ = some (.int .i64 (i : Int))) (fun _ t _ => m - (intOf t).toNat)
  case atStart => exact ⟨0, rfl, by omega, rfl, hid ((Below.refl _ _).alloc (Nat.le_refl _) _), new_cell _ _ _ _ _ rfl⟩
  case round =>
    obtain ⟨q, rfl, hq, rfl, Bl, c8⟩ := hrel
    by_cases hqm : q < m
    · obtain ⟨nb, s, rfl, hs, n1, n2, n3, p, cp, k1, k2, k3, hp⟩ := A.out q hqm
      have mq := hid (M.out q hqm)
      have u1 := U.out q
      have u2 := U2.out i s
      rw [hs, ← hp] at mq
      rw [← hp] at k3 u2
      have e1 := or64 u1 u2
      rw [k1] at o6
      rw [← Bl.out.cell n1] at n2
      rw [← Bl.out.cell k2] at k3
      rw [← Bl.out.cell o4] at o6
      rw [← Bl.out.cell hsb] at c5
      rw [← mq.out] at e1
      generalize meant R i (l.take q) = z at *
      generalize hz : meant R i (l.take (q + 1)) = z' at *
      replace hz := hid hz
      generalize (R.getD i []).length = rl at *
      clear A M U U2 L hs k1 hp mq u1 u2 k2 hsb n1
      go_wp2_with fail
      go_quiet (fail)
      go_wp2_with fail
      go_roundw
      case rel => exact ⟨q + 1, by go_num, by omega, by rw [hz.out], hid (below_drewN Bl.out _), c8⟩
      case measure => simp [intOf]; omega
    · have : q = m := by omega
      subst this
      have e := L.out
      rw [e]
      clear A M U U2 L e
      go_wp2
      go_ret
      exact ⟨rfl, Bl.out⟩
end Go.Proofs.YtkdpcaoocmbbhaaDoor
