/- The contract of alive. -/
import Derived.Test.YtfdfeiempeciiaaCount2
import Derived.Test.YtfdfeiempeciiaaSamePg
import Derived.Test.YtfdfeiempeciiaaMakeM
import Derived.Test.YtfdfeiempeciiaaVars
namespace Go.Proofs.Ytfdfeiempeciiaa
open Go.ChangeShapes Go.WideShapes Go.ChangeAt Go.RowKit Go.Shelf
set_option linter.unusedVariables false

def aliveE : Ex := { Ex.zero with op := 1, n := 1 }
def alive5 (k : Int) : St := { St.zero with op := 5, line := k }
def alive6 (k : Int) (b : Nat) : St := { St.zero with op := 6, e := aliveE, body := [alive5 k], bv := .slice (some ⟨b, 0, none⟩) 1 1 }

theorem alive5_ok (w : World) (F : Nat → Prop) (k : Int) : (alive5 k).ok w F :=
  (St.ok_iff _ _ _).2 ⟨⟨by simp [alive5, St.zero, I64], Rt.zero_ok w F, Pl.zero_ok w F, Ex.zero_ok w F, ⟨RowAt.nil _ _ _, by simp [alive5, St.zero]⟩, RowAt.nil _ _ _, RowAt.nil _ _ _⟩, by simp [alive5, St.zero], by simp [alive5, St.zero]⟩
theorem aliveE_ok (w : World) (F : Nat → Prop) : aliveE.ok w F := (Ex.ok_iff _ _ _).2 ⟨by simp [aliveE, Ex.zero, I64, U64], RowAt.nil _ _ _, by simp [aliveE, Ex.zero]⟩
theorem alive6_ok (w : World) (F : Nat → Prop) (k : Int) (b : Nat) (h : RowAt w F 58 (.slice (some ⟨b, 0, none⟩) 1 1) 1 (alive5 k).cells) : (alive6 k b).ok w F :=
  (St.ok_iff _ _ _).2 ⟨⟨by simp [alive6, St.zero, I64], Rt.zero_ok w F, Pl.zero_ok w F, aliveE_ok w F, ⟨RowAt.nil _ _ _, by simp [alive6, St.zero]⟩, by simpa [alive6] using h, RowAt.nil _ _ _⟩, fun x hx => by
    simp only [alive6, List.mem_cons, List.not_mem_nil, or_false] at hx
    subst hx
    exact alive5_ok w F k, by simp [alive6, St.zero]⟩
theorem row_of_one {w : World} {F : Nat → Prop} {v : Value} {s : St} (h : RowAt w F 58 v 1 s.cells) (hs : s.ok w F) : stsOk w F v [s] := ⟨by simpa using h, fun x hx => by simp at hx; subst hx; exact hs⟩

/-- Two rows of one statement with one within, as alive makes them. -/
theorem alive_row (w : World) (k : Int) : stsOk ((w.alloc (.cells (alive5 k).cells.toArray 52)).alloc (.cells (alive6 k w.heap.size).cells.toArray 52)) (fun _ => True) (.slice (some ⟨w.heap.size + 1, 0, none⟩) 1 1) [alive6 k w.heap.size] := by
  have h1 := RowAt.made w (alive5 k).cells 52 (fun _ => True) trivial 58 rfl
  have h2 := RowAt.made (w.alloc (.cells (alive5 k).cells.toArray 52)) (alive6 k w.heap.size).cells 52 (fun _ => True) trivial 58 rfl
  rw [World.size_alloc] at h2
  exact row_of_one h2 (alive6_ok _ _ _ _ (h1.kept ((Below.refl _ _).alloc (Nat.le_refl _) _)))

theorem wrap_1 : wrap64 (0 + 1) = 1 := by simp [wrap64]
theorem wrap_2 : wrap64 (1 + 1) = 2 := by simp [wrap64]
theorem alive_flat (k : Int) (b : Nat) : flatL 0 [alive6 k b] = [(0, alive6 k b), (1, alive5 k)] := by
  rw [flatL_cons]
  simp only [alive6, flatL_cons, flatL_nil, alive5, St.zero, List.append_nil, wrap_1]
theorem alive_same (k k' : Int) (b b' : Nat) : eqL St.same [alive6 k b] [alive6 k' b'] = true := by
  have e0 : Ex.same Ex.zero Ex.zero = true := by rw [Ex.same_eq]; simp [Ex.zero, eqL]
  have e1 : Ex.same aliveE aliveE = true := by rw [Ex.same_eq]; simp [aliveE, Ex.zero, eqL]
  have p0 : Pl.same Pl.zero Pl.zero = true := by rw [Pl.same_eq]; simp [Pl.zero, e0]
  have r0 : Rt.same Rt.zero Rt.zero = true := by rw [Rt.same_eq]; simp [Rt.zero, e0, p0]
  have s5 : St.same (alive5 k) (alive5 k') = true := by rw [St.same_eq]; simp [alive5, St.zero, e0, p0, r0, eqL]
  have s6 : St.same (alive6 k b) (alive6 k' b') = true := by rw [St.same_eq]; simp [alive6, St.zero, e1, p0, r0, s5, eqL]
  simp [eqL, s6]

def aliveT (b : Nat) : Th := ⟨[alive6 7 b], .slice (some ⟨b + 1, 0, none⟩) 1 1, 0, 0⟩
def aliveP (b : Nat) : Pg := ⟨[], .slice none 0 0, [], .slice none 0 0, [], .slice none 0 0, [aliveT b], .slice (some ⟨b + 1 + 1 + 1 + 1, 0, none⟩) 1 1⟩
def aliveW (w : World) : World := (((w.alloc (.cells (alive5 7).cells.toArray 52)).alloc (.cells (alive6 7 w.heap.size).cells.toArray 52)).alloc (.cells (alive5 0).cells.toArray 52)).alloc (.cells (alive6 0 (w.heap.size + 1 + 1)).cells.toArray 52)
theorem alive_l (w : World) : stsOk (aliveW w) (fun _ => True) (.slice (some ⟨w.heap.size + 1, 0, none⟩) 1 1) [alive6 7 w.heap.size] := (alive_row w 7).kept (below_two _ _ _)
theorem alive_m (w : World) : stsOk (aliveW w) (fun _ => True) (.slice (some ⟨w.heap.size + 1 + 1 + 1, 0, none⟩) 1 1) [alive6 0 (w.heap.size + 1 + 1)] := by
  have := alive_row ((w.alloc (.cells (alive5 7).cells.toArray 52)).alloc (.cells (alive6 7 w.heap.size).cells.toArray 52)) 0
  rw [World.size_alloc, World.size_alloc] at this
  exact this
theorem alive_b (w : World) : Below w.heap.size w (aliveW w) := Below.over (below_two _ _ _) (below_two _ _ _)
theorem alive_p (w : World) : (aliveP w.heap.size).ok ((aliveW w).alloc (.cells (aliveT w.heap.size).cells.toArray 37)) (fun _ => True) := by
  have h := RowAt.made (aliveW w) (aliveT w.heap.size).cells 37 (fun _ => True) trivial 3 rfl
  have e : (aliveW w).heap.size = w.heap.size + 1 + 1 + 1 + 1 := by simp only [aliveW, World.size_alloc]
  rw [e] at h
  refine ⟨⟨RowAt.nil _ _ _, by simp [aliveP]⟩, ⟨RowAt.nil _ _ _, by simp [aliveP]⟩, ⟨RowAt.nil _ _ _, by simp [aliveP]⟩, by simpa [aliveP] using h, fun x hx => ?_⟩
  simp only [aliveP, List.mem_cons, List.not_mem_nil, or_false] at hx
  subst hx
  exact (alive_l w).kept ((Below.refl _ _).alloc (Nat.le_refl _) _)

set_option maxRecDepth 100000 in
set_option maxHeartbeats 4000000 in
theorem alive_any (w : World) : Calls Try.prog 7 #[] w fun e w' => e = .returned (.bool true) ∧ Below w.heap.size w w' := by
  have C := count_any (aliveP w.heap.size) ((aliveW w).alloc (.cells (aliveT w.heap.size).cells.toArray 37)) _ (alive_p w)
  have e : funsL (aliveP w.heap.size).funs ++ thsL (aliveP w.heap.size).threads = [(0, alive6 7 w.heap.size), (1, alive5 7)] := by
    have := alive_flat 7 w.heap.size
    simp only [aliveP, aliveT, funsL, thsL, List.flatMap_nil, List.flatMap_cons, List.nil_append, List.append_nil, this]
  rw [e, show cntF 0 [(0, alive6 7 w.heap.size), (1, alive5 7)] = 2 by simp only [cntF, List.foldl_cons, List.foldl_nil, wrap_1, wrap_2], show maxF (-1) [(0, alive6 7 w.heap.size), (1, alive5 7)] = 1 from rfl] at C
  have D1 := fun W (hW : Below (aliveW w).heap.size (aliveW w) W) => stmts_any _ _ _ _ W _ _ ((alive_l w).kept hW) ((alive_m w).kept hW)
  have D2 := fun W (hW : Below (aliveW w).heap.size (aliveW w) W) => stmts_any _ [] _ (.slice none 0 0) W _ (fun _ => True) ((alive_l w).kept hW) ⟨RowAt.nil _ _ _, by simp⟩
  rw [alive_same] at D1
  have B := hid (alive_b w)
  have B2 := hid (fun w1 (hb : Below ((aliveW w).alloc (.cells (aliveT w.heap.size).cells.toArray 37)).heap.size ((aliveW w).alloc (.cells (aliveT w.heap.size).cells.toArray 37)) w1) => Below.over ((Below.refl (aliveW w).heap.size (aliveW w)).alloc (Nat.le_refl _) _) hb)
  clear e
  go_enter Try.func7, Try.ntmps7
  go_wp2_with fail
  refine C.mono ?_
  rintro e w1 ⟨rfl, hb⟩
  replace hb := hid (B2.out w1 hb)
  clear C B2
  go_wp2_with fail
  refine (D1 _ hb.out).mono ?_
  rintro e w2 ⟨rfl, hb2⟩
  replace hb2 := hid (Below.over hb.out hb2)
  clear D1
  go_wp2_with fail
  refine (D2 _ hb2.out).mono ?_
  rintro e w3 ⟨rfl, hb3⟩
  replace hb3 := hid (Below.over hb2.out hb3)
  go_wp2
  go_ret
  exact ⟨rfl, Below.over B.out hb3.out⟩
end Go.Proofs.Ytfdfeiempeciiaa
