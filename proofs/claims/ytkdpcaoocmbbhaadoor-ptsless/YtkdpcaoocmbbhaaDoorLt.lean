/- A row of its own in which one cell is set anew. -/
import Derived.Test.YtkdpcaoocmbbhaaDoorM12
import Derived.Test.YtkdpcaoocmbbhaaDoorLs
namespace Go.Proofs.YtkdpcaoocmbbhaaDoor
open Go.ChangeShapes Go.WideShapes Go.ChangeAt Go.RowKit Go.Deep
set_option linter.unusedVariables false
set_option linter.unusedSimpArgs false

theorem own_var {w : World} {base : Nat} {e : TypeId} {size n : Nat} {v : Value} {xs : List Value} (h : w.ownsRow base e size v n xs) (hn : 0 < n) : ∃ g cap cur, v = .slice (some ⟨g, 0, none⟩) n cap ∧ base ≤ g ∧ VarAt w g cur e ∧ n ≤ cap ∧ cap ≤ maxLen ∧ cur.length = cap * size ∧ cur.take (n * size) = xs := by
  rcases h.2 with ⟨rfl, h0⟩ | ⟨g, cap, cur, rfl, hbg, hg, hle, hcm, hcs, htk⟩
  · omega
  · exact ⟨g, cap, cur.toList, rfl, hbg, by unfold VarAt; rw [Array.toArray_toList]; exact hg, hle, hcm, by simpa using hcs, htk⟩
theorem row_set {α : Type} {cells : α → List Value} {s : Nat} {ok : World → α → Prop} {X : World} {g cap : Nat} {C : List Value} {t : TypeId} (l : List α) {i q : Nat} {x y : α} {v : Value} (hs : ∀ x ∈ l, (cells x).length = s) (hx : l[i]? = some x) (hq : q < s) (hy : cells y = (cells x).set q v)
    (hC : C.take (l.length * s) = l.flatMap cells) (hCl : C.length = cap * s) (hle : l.length ≤ cap) (hm : cap ≤ maxLen) (hX : VarAt X g (C.set (i * s + q) v) t) (hok : ∀ z ∈ l.set i y, ok X z) : RowOf cells s ok X (.slice (some ⟨g, 0, none⟩) l.length cap) (l.set i y) := by
  have hi := (List.getElem?_eq_some_iff.1 hx).1
  have base : ∀ (i' : Nat) (x' : α), l[i']? = some x' → ∀ (p : Nat) (u : Value), (cells x')[p]? = some u → C[i' * s + p]? = some u := fun i' x' h p u hu => by
    have := flat_rng l hs i' x' h p u hu
    rw [← hC, List.getElem?_take] at this
    split at this
    · exact this
    · cases this
  have hlt : i * s + q < C.length := by
    rw [hCl]
    have : (i + 1) * s ≤ cap * s := Nat.mul_le_mul_right s (by omega)
    rw [Nat.add_mul] at this
    omega
  refine ⟨some ⟨g, 0, none⟩, cap, by rw [List.length_set], by rw [List.length_set]; exact hle, hm, (fun p hp _ => by cases hp; rfl), (fun e => by cases e), fun i' x' hx' => ⟨g, 0, rfl, hX.lt, fun p u hu => ?_, hok x' (List.mem_of_getElem? hx')⟩⟩
  rw [show 0 + i' * s + p = i' * s + p by omega]
  refine hX.cell (i' * s + p) ?_
  rcases set_get hx' with ⟨rfl, rfl, _⟩ | ⟨hne, h⟩
  · rw [hy] at hu
    rcases set_get hu with ⟨rfl, rfl, _⟩ | ⟨hpq, h⟩
    · rw [List.getElem?_set_self hlt]
    · rw [List.getElem?_set_ne (by omega)]
      exact base i' x hx p u h
  · have hp : p < s := by
      have := (List.getElem?_eq_some_iff.1 hu).1
      rw [hs x' (List.mem_of_getElem? h)] at this
      exact this
    rw [List.getElem?_set_ne (by
      intro e
      rcases Nat.lt_trichotomy i i' with k | k | k
      · have : (i + 1) * s ≤ i' * s := Nat.mul_le_mul_right s (by omega)
        rw [Nat.add_mul] at this
        omega
      · exact hne k.symm
      · have : (i' + 1) * s ≤ i * s := Nat.mul_le_mul_right s (by omega)
        rw [Nat.add_mul] at this
        omega)]
    exact base i' x' h p u hu
end Go.Proofs.YtkdpcaoocmbbhaaDoor
