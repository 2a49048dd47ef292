/- Contracts of the document's 'value' (any place) and 'Eval', over its own code. -/
import Derived.Test.YtefcpidegnddiaaVal1
namespace Go.Proofs.Ytefcpidegnddiaa
open Go.ChangeShapes Go.WideShapes Go.ChangeAt Go.RowKit
set_option linter.unusedVariables false

theorem can_n2 {s : Int} {x : Itm} (h : can s x = true) (e : x.op = 2) : x.n < s := by
  obtain ⟨op, bin, n⟩ := x
  simp only at e
  subst e
  simp [can] at h
  exact h.2.2
theorem can_n3 {s : Int} {x : Itm} (h : can s x = true) (e : x.op = 3) : x.n < 16 := by
  obtain ⟨op, bin, n⟩ := x
  simp only at e
  subst e
  simp [can] at h
  exact h.2

theorem value_any (xa sa ia : Option Addr) (xn xc sn sc im ic : Nat) (xs : List Itm) (sl ins : List Int) (hxn : xn = xs.length) (hsn : sn = sl.length) (him : im = ins.length) (hxl : xn ≤ 1000) (hsl : sn ≤ 1000) (hil : im ≤ 1000)
    (hU : AllU sl) (hok : ∀ i, i < xs.length → (xs.getD i Itm.blank).ok) (hcan : ∀ i, i < xs.length → can sn (xs.getD i Itm.blank) = true) (hp : Pre sl ins xs xs.length) : ∀ k, k < xs.length → ValAt xa sa ia xn xc sn sc im ic xs sl ins k := by
  intro k
  induction k using Nat.strongRecOn with
  | _ k ih =>
    intro hk W hX hS hI
    obtain ⟨b, off, rfl, hb, ⟨c0, c1, c2⟩, ok⟩ := hX k hk
    have hc := hcan k hk
    have hops := can_ops _ _ hc
    have t0 := top0 sl ins xs k
    have t1 := top1 sl ins xs _ k hp hk
    have t2 := top2 sl ins xs _ k hp hk
    generalize hx : xs.getD k Itm.blank = x at *
    have hn2 := fun e => can_n2 hc (x := x) e
    have hn3 := fun e => can_n3 hc (x := x) e
    obtain ⟨op, bin, n⟩ := x
    have hB := (Below.refl W.heap.size W).alloc (Nat.le_refl _) (.cells #[.int .i64 op, .int .i64 bin, .int .u64 n] 36)
    have hkx : k < xn := by omega
    obtain ⟨_, _, _, _, n0, n1⟩ := ok
    simp only at hops c0 c1 c2 n0 n1 t0 t1 t2 hn2 hn3
    have one : ∀ o : Int, o = op → tk op = 1 → (∀ (j : Nat), k = j + 1 → ∀ (v : Int) (f : Nat) (bad : Int), 0 ≤ v → v ≤ 18446744073709551615 →
        Hid (Calls Try.prog 16 #[.slice (some ⟨b, off, none⟩) xn xc, .int .i64 (j : Int), .slice sa sn sc, .slice ia im ic] (W.alloc (.cells #[.int .i64 op, .int .i64 bin, .int .u64 n] 36)) fun e w' => e = .returned (.tuple #[.int .u64 v, .int .i64 (f : Int), .int .i64 bad]) ∧ Below (W.alloc (.cells #[.int .i64 op, .int .i64 bin, .int .u64 n] 36)).heap.size (W.alloc (.cells #[.int .i64 op, .int .i64 bin, .int .u64 n] 36)) w') →
        Calls Try.prog 16 #[.slice (some ⟨b, off, none⟩) xn xc, .int .i64 ((j + 1 : Nat) : Int), .slice sa sn sc, .slice ia im ic] W fun e w' => e = .returned (.tuple #[.int .u64 (turnV op v), .int .i64 (f : Int), .int .i64 bad]) ∧ Below W.heap.size W w') →
        Calls Try.prog 16 #[.slice (some ⟨b, off, none⟩) xn xc, .int .i64 k, .slice sa sn sc, .slice ia im ic] W fun e w' => e = .returned (.tuple #[.int .u64 (topE sl ins xs k).v, .int .i64 (topE sl ins xs k).f, .int .i64 (topE sl ins xs k).b]) ∧ Below W.heap.size W w' := by
      intro o _ ht h
      obtain ⟨g1, g2⟩ := t1 ht
      obtain ⟨j, rfl⟩ : ∃ j, k = j + 1 := ⟨k - 1, by omega⟩
      have e1 : j + 1 - 1 = j := by omega
      rw [e1] at g2
      have hv := top_ok sl ins xs hU hok hp j (by omega)
      have := h j rfl _ _ _ hv.1.1 hv.1.2 (ih j (by omega) (by omega) _ (hX.kept hB) (hS.kept hB) (hI.kept hB))
      rw [g2]
      exact this
    have two : tk op = 2 → (∀ (j m : Nat), k = j + 1 → m ≤ j → ∀ (v bad u : Int) (g : Nat) (worse : Int), 0 ≤ v → v ≤ 18446744073709551615 → 0 ≤ u → u ≤ 18446744073709551615 →
        Hid (Calls Try.prog 16 #[.slice (some ⟨b, off, none⟩) xn xc, .int .i64 (j : Int), .slice sa sn sc, .slice ia im ic] (W.alloc (.cells #[.int .i64 op, .int .i64 bin, .int .u64 n] 36)) fun e w' => e = .returned (.tuple #[.int .u64 v, .int .i64 ((m + 1 : Nat) : Int), .int .i64 bad]) ∧ Below (W.alloc (.cells #[.int .i64 op, .int .i64 bin, .int .u64 n] 36)).heap.size (W.alloc (.cells #[.int .i64 op, .int .i64 bin, .int .u64 n] 36)) w') →
        Hid (∀ W2, Below (W.alloc (.cells #[.int .i64 op, .int .i64 bin, .int .u64 n] 36)).heap.size (W.alloc (.cells #[.int .i64 op, .int .i64 bin, .int .u64 n] 36)) W2 → Calls Try.prog 16 #[.slice (some ⟨b, off, none⟩) xn xc, .int .i64 (m : Int), .slice sa sn sc, .slice ia im ic] W2 fun e w' => e = .returned (.tuple #[.int .u64 u, .int .i64 (g : Int), .int .i64 worse]) ∧ Below W2.heap.size W2 w') →
        Calls Try.prog 16 #[.slice (some ⟨b, off, none⟩) xn xc, .int .i64 ((j + 1 : Nat) : Int), .slice sa sn sc, .slice ia im ic] W fun e w' => e = .returned (.tuple #[.int .u64 (join2 ⟨op, bin, n⟩ ⟨v, m + 1, bad⟩ ⟨u, g, worse⟩).v, .int .i64 ((join2 ⟨op, bin, n⟩ ⟨v, m + 1, bad⟩ ⟨u, g, worse⟩).f : Int), .int .i64 (join2 ⟨op, bin, n⟩ ⟨v, m + 1, bad⟩ ⟨u, g, worse⟩).b]) ∧ Below W.heap.size W w') →
        Calls Try.prog 16 #[.slice (some ⟨b, off, none⟩) xn xc, .int .i64 k, .slice sa sn sc, .slice ia im ic] W fun e w' => e = .returned (.tuple #[.int .u64 (topE sl ins xs k).v, .int .i64 (topE sl ins xs k).f, .int .i64 (topE sl ins xs k).b]) ∧ Below W.heap.size W w' := by
      intro ht h
      obtain ⟨g1, g2, g3, g4⟩ := t2 ht
      obtain ⟨j, rfl⟩ : ∃ j, k = j + 1 := ⟨k - 1, by omega⟩
      have e1 : j + 1 - 1 = j := by omega
      rw [e1] at g2 g3 g4
      have hv := top_ok sl ins xs hU hok hp j (by omega)
      have i1 := ih j (by omega) (by omega) _ (hX.kept hB) (hS.kept hB) (hI.kept hB)
      obtain ⟨m, hm⟩ : ∃ m, (topE sl ins xs j).f = m + 1 := ⟨(topE sl ins xs j).f - 1, by omega⟩
      have e2 : (topE sl ins xs j).f - 1 = m := by omega
      rw [e2] at g4
      have hu := top_ok sl ins xs hU hok hp m (by omega)
      have i2 := fun W2 (h2 : Below (W.alloc (.cells #[.int .i64 op, .int .i64 bin, .int .u64 n] 36)).heap.size (W.alloc (.cells #[.int .i64 op, .int .i64 bin, .int .u64 n] 36)) W2) => ih m (by omega) (by omega) W2 ((hX.kept hB).kept h2) ((hS.kept hB).kept h2) ((hI.kept hB).kept h2)
      rw [hm] at i1
      have e3 : topE sl ins xs j = ⟨(topE sl ins xs j).v, m + 1, (topE sl ins xs j).b⟩ := by rw [← hm]
      have := h j m rfl (by omega) _ _ _ _ _ hv.1.1 hv.1.2 hu.1.1 hu.1.2 i1 i2
      rw [g4, e3]
      exact this
    rcases hops with rfl | rfl | rfl | rfl | rfl | rfl | rfl | rfl | rfl | rfl
    · have := val1 b off sa ia xn xc sn sc im ic k sl ins bin n W hkx hxl hsl hil hsn him n0 n1 c0 c1 c2 hS hI
      rw [t0 rfl]; exact this
    · have := val2 b off sa ia xn xc sn sc im ic k sl ins bin n W hkx hxl hsl hil hsn him n0 n1 (hn2 rfl) c0 c1 c2 hS hI
      rw [t0 rfl]; exact this
    · have := val3 b off sa ia xn xc sn sc im ic k sl ins bin n W hkx hxl hsl hil hsn him n0 n1 (hn3 rfl) c0 c1 c2 hS hI
      rw [t0 rfl]; exact this
    · exact one _ rfl rfl fun j e v f bad h0 h1 C => val4 b off _ _ xn xc j bin n v f bad W (by omega) hxl h0 h1 (e ▸ c0) (e ▸ c1) (e ▸ c2) C
    · exact one _ rfl rfl fun j e v f bad h0 h1 C => val5 b off _ _ xn xc j bin n v f bad W (by omega) hxl h0 h1 (e ▸ c0) (e ▸ c1) (e ▸ c2) C
    · exact one _ rfl rfl fun j e v f bad h0 h1 C => val6 b off _ _ xn xc j bin n v f bad W (by omega) hxl h0 h1 (e ▸ c0) (e ▸ c1) (e ▸ c2) C
    · exact one _ rfl rfl fun j e v f bad h0 h1 C => val7 b off _ _ xn xc j bin n v f bad W (by omega) hxl h0 h1 (e ▸ c0) (e ▸ c1) (e ▸ c2) C
    · exact two rfl fun j m e hm v bad u g worse h0 h1 k0 k1 C D => val8 b off _ _ xn xc j bin n v m bad u g worse W (by omega) hm hxl h0 h1 k0 k1 (e ▸ c0) (e ▸ c1) (e ▸ c2) C D
    · exact two rfl fun j m e hm v bad u g worse h0 h1 k0 k1 C D => val9 b off _ _ xn xc j bin n v m bad u g worse W (by omega) hm hxl h0 h1 k0 k1 (e ▸ c0) (e ▸ c1) (e ▸ c2) C D
    · exact two rfl fun j m e hm v bad u g worse h0 h1 k0 k1 C D => val10 b off _ _ xn xc j bin n v m bad u g worse W (by omega) hm hxl h0 h1 k0 k1 (e ▸ c0) (e ▸ c1) (e ▸ c2) C D

theorem can_all {s : Int} {l : List Itm} {h k : Nat} (e : hgt s l h = some k) : ∀ x ∈ l, can s x = true := by
  induction l generalizing h with
  | nil => intro x hx; simp at hx
  | cons y l ih =>
    obtain ⟨c1, c2, c3⟩ := hgt_can e
    intro x hx
    rcases List.mem_cons.1 hx with rfl | hx
    · exact c1
    · exact ih c3 x hx

set_option maxRecDepth 100000 in
set_option maxHeartbeats 1000000 in
theorem reval_any (xa sa ia : Option Addr) (xn xc sn sc im ic : Nat) (xs : List Itm) (sl ins : List Int) (w : World) (hxn : xn = xs.length) (hs : sn = sl.length) (hi : im = ins.length) (hX : ItemsAt w xa xs) (hS : NumsAt .u64 w sa sl) (hI : NumsAt .i64 w ia ins) (hxl : xn ≤ 1000) (hsl : sn ≤ 1000) (hil : im ≤ 1000) :
    Calls Try.prog 10 #[.slice xa xn xc, .slice sa sn sc, .slice ia im ic] w fun e w' => e = .returned (.tuple #[.int .u64 (evN sl ins xs), .int .i64 (evT sl ins xs)]) ∧ Below w.heap.size w w' := by
  have G := hid (rgood_any (sn : Int) xa xn xc xs w hxn hX (by omega) (by omega) (by omega))
  cases hg : goodB (sn : Int) xs
  · have E := hid (evN_bad (sl := sl) (ins := ins) (l := xs) (by rw [← hs]; exact hg))
    rw [hg] at G
    clear hg hX hS hI hxn hs hi
    go_enter Try.func10, Try.ntmps10
    go_wp2_with (go_at_call 12; refine G.out.mono ?_; rintro e w' ⟨rfl, hb⟩)
    go_ret2
    exact ⟨retUT E.out.1.symm E.out.2.symm, hb⟩
  · rw [hg] at G
    have hg2 : goodB (sl.length : Int) xs = true := by rw [← hs]; exact hg
    obtain ⟨hpos, r0, r1⟩ := reval_is sl ins xs hg2
    have hh := (good_hgt hg).1
    have hok : ∀ i, i < xs.length → (xs.getD i Itm.blank).ok := fun i hi => by
      obtain ⟨_, _, _, _, _, o⟩ := hX i hi
      exact o
    have hcan : ∀ i, i < xs.length → can sn (xs.getD i Itm.blank) = true := fun i hi => can_all hh _ (by
      have : xs.getD i Itm.blank = xs[i] := by simp [List.getD, hi]
      rw [this]; exact List.getElem_mem hi)
    have V := value_any xa sa ia xn xc sn sc im ic xs sl ins hxn hs hi hxl hsl hil hS.allU hok hcan (pre_good sl ins sn xs 1 hh) (xs.length - 1) (by omega)
    obtain ⟨j, rfl⟩ : ∃ j, xn = j + 1 := ⟨xn - 1, by omega⟩
    have ej : xs.length - 1 = j := by omega
    rw [ej] at V r0 r1
    have C := hid (fun W (h : Below w.heap.size w W) => V W (hX.kept h) (hS.kept h) (hI.kept h))
    replace r0 := hid r0
    replace r1 := hid r1
    generalize topE sl ins xs j = p at *
    obtain ⟨v, f, bad⟩ := p
    clear hg hg2 hpos hh hok hcan V hX hS hI hxn hs hi ej
    cases hb : (bad != 0)
    · have eb : bad = 0 := by simpa using hb
      have E := hid (r0.out eb)
      clear r0 r1 eb
      go_enter Try.func10, Try.ntmps10
      go_wp2_with fail
      refine Calls.mono G.out ?_
      rintro e w1 ⟨rfl, hb1⟩
      have C1 := hid (C.out w1 hb1)
      replace hb1 := hid hb1
      clear G C
      go_wp2_with fail
      refine Calls.mono C1.out ?_
      rintro e w2 ⟨rfl, hb2⟩
      have B2 := hid (hb1.out.trans (hb2.mono hb1.out.size))
      clear hb1 hb2 C1
      go_wp2
      go_ret2
      exact ⟨retUT E.out.1.symm E.out.2.symm, B2.out⟩
    · have eb : bad ≠ 0 := by simpa using hb
      have E := hid (r1.out eb)
      clear r0 r1 eb
      go_enter Try.func10, Try.ntmps10
      go_wp2_with fail
      refine Calls.mono G.out ?_
      rintro e w1 ⟨rfl, hb1⟩
      have C1 := hid (C.out w1 hb1)
      replace hb1 := hid hb1
      clear G C
      go_wp2_with fail
      refine Calls.mono C1.out ?_
      rintro e w2 ⟨rfl, hb2⟩
      have B2 := hid (hb1.out.trans (hb2.mono hb1.out.size))
      clear hb1 hb2 C1
      go_wp2
      go_ret2
      exact ⟨retUT E.out.1.symm E.out.2.symm, B2.out⟩
end Go.Proofs.Ytefcpidegnddiaa
