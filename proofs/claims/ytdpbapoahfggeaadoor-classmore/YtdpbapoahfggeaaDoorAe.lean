/- The statements' example: three sites, a set of 0 and 2. -/
import Derived.Test.YtdpbapoahfggeaaDoorSp
namespace Go.Proofs.YtdpbapoahfggeaaDoor
open Go.ChangeShapes Go.WideShapes Go.ChangeAt Go.RowKit Go.Deep
set_option linter.unusedVariables false
set_option linter.unusedSimpArgs false

theorem ex_nums {l : List Nat} (h : NumS 3 [5, 0] l) : l = [1, 2, 1] := by
  have hl := h.len
  match l, hl with
  | [a, b, c], _ =>
  have p0 := h.pos 0 (by decide)
  have p1 := h.pos 1 (by decide)
  have s02 := (h.same 0 2 (by decide) (by decide)).2 (Jo.one (by decide))
  have s01 := (h.same 1 0 (by decide) (by decide)).1
  have no : ¬ Jo 3 [5, 0] 1 0 := fun j => by
    have := j (fun x => x = 1) rfl (fun x y hx hm => by
      subst hx
      rw [meet_iff] at hm
      obtain ⟨_, _, z, hz, h1, _⟩ := hm
      simp at hz
      rcases hz with rfl | rfl
      · exact absurd h1 (by decide)
      · exact absurd h1 (by decide))
    cases this
  have l0 := h.low 0 (by decide) 1 (Nat.le_refl _)
  have l1 := h.low 1 (by decide) 2 (by decide)
  simp at p0 p1 s02 s01 l0 l1
  have ea : a = 1 := by omega
  subst ea
  have hb1 : b ≠ 1 := fun e => no (s01 e)
  have hb2 : ¬ 2 < b := fun q => by
    have := l1 q
    omega
  have : b = 2 := by omega
  subst this
  rw [← s02]

set_option maxRecDepth 100000 in
set_option maxHeartbeats 1000000 in
theorem alivec_any (w : World) (hTab : Tab w) : Calls Tryd.prog 7 #[] w fun e w' => e = .returned (.bool true) ∧ Below w.heap.size w w' := by
  have V := VarAt.new w [.int .u64 5, .int .u64 0] 23
  have BX := (Below.refl w.heap.size w).alloc (Nat.le_refl _) (.cells #[.int .u64 5, .int .u64 0] 23)
  have NR : NumR (w.alloc (.cells #[.int .u64 5, .int .u64 0] 23)) (.slice (some ⟨w.heap.size, 0, none⟩) 2 2) [5, 0] := ⟨_, _, rfl, by simp, fun i u hu => ⟨_, 0, rfl, V.lt, by rw [Nat.zero_add]; exact V.cell i hu⟩⟩
  have R0 : RowsR (w.alloc (.cells #[.int .u64 5, .int .u64 0] 23)) (.slice none 0 0) [] := ⟨[], ⟨_, _, rfl, by simp, fun i u hu => by simp at hu⟩, rfl, fun i u l hu => by simp at hu⟩
  have C := split_any 3 (by decide) (by decide) _ _ _ [] [5, 0] [] _ R0 NR R0 (fun l hl => by cases hl) (fun l hl x hx => by simp at hl; subst hl; simp at hx; omega) (fun l hl => by cases hl) (hTab.kept BX)
  have CO := hid (fun (x : Nat) (hx : x < 18446744073709551616) v l W (k : Below w.heap.size w W) (hv : IntR W v l) => of_any x hx v l W hv (hTab.kept k))
  replace C := hid C
  replace BX := hid BX
  have o4 : ofL 4 [1, 2, 1] = 1 := by decide
  have o0 : ofL 0 [1, 2, 1] = 0 := by decide
  replace o4 := hid o4
  replace o0 := hid o0
  clear V NR R0 hTab
  go_enter Tryd.func7, Tryd.ntmps7
  go_wp2_with (first
    | (go_at_call 8; refine Calls.mono C.out ?_; rintro _ w1 ⟨v, l, rfl, hI, hN, hb⟩; obtain rfl := ex_nums hN; have B1 := BX.out.trans (hb.mono BX.out.size); have C4 := CO.out 4 (by decide) v _ w1 B1 hI; rw [o4.out] at C4; have I1 := hid (show ∀ W, Below w1.heap.size w1 W → IntR W v [1, 2, 1] from fun W k => hI.kept k); obtain ⟨ra, rc, rfl, -, hr⟩ := hI.open; obtain ⟨b, off, rfl, -, x0⟩ := hr 0 (by decide); obtain ⟨b', off', e1, -, x1⟩ := hr 1 (by decide); obtain ⟨b2, off2, e2, -, x2⟩ := hr 2 (by decide); cases e1; cases e2; simp at x0 x1 x2; replace C4 := hid C4; replace B1 := hid B1; clear hb hN hr C)
    | (go_at_call 12; refine Calls.mono C4.out ?_; rintro _ w2 ⟨rfl, hb2⟩; have B2 := B1.out.trans (hb2.mono B1.out.size); have C0 := CO.out 0 (by decide) _ _ w2 B2 (I1.out _ hb2); rw [o0.out] at C0; replace C0 := hid C0; replace B2 := hid B2; clear hb2 C4)
    | (go_at_call 12; refine Calls.mono C0.out ?_; rintro _ w3 ⟨rfl, hb3⟩; have B3 := hid (B2.out.trans (hb3.mono B2.out.size)); clear hb3 C0))
  all_goals
    go_ret
    exact ⟨rfl, B3.out⟩
end Go.Proofs.YtdpbapoahfggeaaDoor
