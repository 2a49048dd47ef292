/- The contract of calc's Uses: a row of slots' numbers. -/
import Derived.Test.YtkdpcaoocmbbhaaDoorDs
import Derived.Test.YtkdpcaoocmbbhaaDoorAlive
namespace Go.Proofs.YtkdpcaoocmbbhaaDoor
open Go.ChangeShapes Go.WideShapes Go.ChangeAt Go.RowKit Go.Deep
set_option linter.unusedVariables false
set_option linter.unusedSimpArgs false

theorem own_keep {w w' : World} {base : Nat} {e : TypeId} {size : Nat} {v : Value} {n : Nat} {xs : List Value} (h : w.ownsRow base e size v n xs) (k : ∀ g, base ≤ g → g < w.heap.size → w'.heap[g]? = w.heap[g]?) : w'.ownsRow base e size v n xs := by
  refine ⟨h.1, ?_⟩
  rcases h.2 with h2 | ⟨g, cap, cur, hv, hb, hg, rest⟩
  · exact .inl h2
  · exact .inr ⟨g, cap, cur, hv, hb, (k g hb (Array.getElem?_eq_some_iff.1 hg).1).trans hg, rest⟩
theorem own_low {w : World} {base base' : Nat} {e : TypeId} {size : Nat} {v : Value} {n : Nat} {xs : List Value} (h : w.ownsRow base e size v n xs) (b : base' ≤ base) : w.ownsRow base' e size v n xs := by
  refine ⟨h.1, ?_⟩
  rcases h.2 with h2 | ⟨g, cap, cur, hv, hb, hg, rest⟩
  · exact .inl h2
  · exact .inr ⟨g, cap, cur, hv, Nat.le_trans b hb, hg, rest⟩
theorem own_lt {w : World} {base : Nat} {e : TypeId} {size : Nat} {v : Value} {n : Nat} {xs : List Value} (h : w.ownsRow base e size v n xs) {g : Nat} (hg : v.ownBlock = some g) : base ≤ g ∧ g < w.heap.size := by
  rcases h.2 with ⟨rfl, _⟩ | ⟨g', cap, cur, rfl, hb, hg', rest⟩
  · simp [Value.ownBlock] at hg
  · simp [Value.ownBlock] at hg
    subst hg
    exact ⟨hb, (Array.getElem?_eq_some_iff.1 hg').1⟩

def cellI (s : Nat) : List Value := [.int .i64 (s : Int)]
theorem flat_cellI (l : List Nat) (q : Nat) (h : q < l.length) : (l.flatMap cellI)[q]? = some (.int .i64 ((l.getD q 0 : Nat) : Int)) := by
  have := flat_get cellI 1 (fun _ => rfl) l q (l.getD q 0) (by simp [List.getD, h]) 0 (.int .i64 ((l.getD q 0 : Nat) : Int)) rfl
  simpa using this

/-- A row of numbers that this call owns, as others read it. -/
theorem nums_own {w : World} {base : Nat} {v : Value} {l : List Nat} (h : w.ownsRow base 3 1 v l.length (l.flatMap cellI)) : NumsM w base w.heap.size v l := by
  rcases h.2 with ⟨rfl, h0⟩ | ⟨g, cap, cur, rfl, hb, hg, hle, hcm, hcs, ht⟩
  · have hl : l = [] := by cases l with
      | nil => rfl
      | cons x l => simp at h0
    subst hl
    exact ⟨none, 0, rfl, fun q hq => by simp at hq⟩
  · have hlt : g < w.heap.size := (Array.getElem?_eq_some_iff.1 hg).1
    refine ⟨some ⟨g, 0, none⟩, cap, rfl, fun q hq => ⟨g, rfl, hb, hlt, hlt, ?_⟩⟩
    have := h.cells (g := g) rfl q _ (flat_cellI l q hq)
    rwa [add_plain, Nat.zero_add] at this

theorem info3 : (Tryd.prog.info? 3).map (fun i => (i.zero, i.size, i.bytes)) = some (some (.int .i64 0), 1, 8) := by kernel_rfl
theorem uses_cons (x : Itm) (l : List Itm) : usesN (x :: l) = (if x.op == 2 then [x.n.toNat] else []) ++ usesN l := by
  unfold usesN
  rw [List.filterMap_cons]
  cases x.op == 2 <;> rfl
theorem uses_take (xs : List Itm) (j : Nat) (x : Itm) (h : xs[j]? = some x) : usesN (xs.take (j + 1)) = usesN (xs.take j) ++ (if x.op == 2 then [x.n.toNat] else []) := by
  rw [take_snoc' h]
  unfold usesN
  rw [List.filterMap_append]
  congr 1
  rw [List.filterMap_cons]
  cases x.op == 2 <;> rfl
theorem uses_le (xs : List Itm) (j : Nat) : (usesN (xs.take j)).length ≤ j := by
  have h1 : (usesN (xs.take j)).length ≤ (xs.take j).length := by unfold usesN; exact List.length_filterMap_le _ _
  have h2 := List.length_take_le j xs
  omega

set_option maxRecDepth 100000 in
set_option maxHeartbeats 1000000 in
theorem uses_any (v : Value) (xs : List Itm) (w : World) (hx : Items w v xs) (hl : xs.length ≤ 1000) (hn : ∀ x ∈ xs, (x.op == 2) = true → 0 ≤ x.n ∧ x.n < 1000) :
    Calls Tryd.prog 39 #[v] w fun e w' => ∃ u, e = .returned u ∧ w'.ownsRow w.heap.size 3 1 u (usesN xs).length ((usesN xs).flatMap cellI) ∧ Below w.heap.size w w' := by
  obtain ⟨a, cap, rfl, hr⟩ := RowOf.at hx
  have HX := hid hr
  have HT := hid (fun j (x : Itm) h => uses_take xs j x h)
  have HL := hid (fun j => uses_le xs j)
  have HN := hid hn
  have HA := hid (List.take_length (l := xs))
  clear hr hn hx
  generalize hln : xs.length = n at *
  replace hln := hid hln
  go_enter Tryd.func39, Tryd.ntmps39
  go_wp2_with fail
  go_loopw [3, 8] (fun t3 t wr => ∃ (j m c : Nat) (p : Option Addr) (l : List Nat), t = .int .i64 j ∧ j ≤ n ∧ t3 = .slice p m c ∧ m ≤ j ∧ Hid (l = usesN (xs.take j) ∧ m = l.length) ∧ Hid (wr.ownsRow w.heap.size 3 1 (.slice p m c) m (l.flatMap cellI)) ∧ Hid (Below w.heap.size w wr)) (fun _ t _ => n - (intOf t).toNat)
  case atStart => exact ⟨0, 0, 0, none, [], rfl, by omega, rfl, by omega, hid ⟨rfl, rfl⟩, hid ⟨rfl, .inl ⟨rfl, rfl⟩⟩, hid (Below.refl _ _)⟩
  case round =>
    obtain ⟨j, m, c, p, l, rfl, hj, rfl, hm, E, O, B⟩ := hrel
    by_cases hjn : j < n
    · obtain ⟨x, b, off, hx, rfl, hb, hra, ok⟩ := HX.out j hjn
      have c0 : w.cell? ⟨b, off + j * 3, none⟩ = some (.int .i64 x.op) := hra 0 _ rfl
      have c1 := hra 1 _ rfl
      have c2 := hra 2 _ rfl
      rw [← B.out.cell hb] at c0 c1 c2
      have T := HT.out j x hx
      have N := HN.out x (List.mem_of_getElem? hx)
      have hk := (Below.refl wr.heap.size wr).alloc (Nat.le_refl _) (.cells #[.int .i64 x.op, .int .i64 x.bin, .int .u64 x.n] 52)
      have B1 := hid (B.out.alloc B.out.size (.cells #[.int .i64 x.op, .int .i64 x.bin, .int .u64 x.n] 52))
      clear HX HT HN hx ok hra
      cases ho : (x.op == 2)
      · have E2 : Hid (l = usesN (xs.take (j + 1)) ∧ m = l.length) := hid ⟨by rw [T, ho, E.out.1]; simp, E.out.2⟩
        have O2 : Hid ((wr.alloc (.cells #[.int .i64 x.op, .int .i64 x.bin, .int .u64 x.n] 52)).ownsRow w.heap.size 3 1 (.slice p m c) m (l.flatMap cellI)) := hid (own_keep O.out (fun g hg hl => hk.block g hl))
        clear E O B hk T N
        go_wp2
        go_roundw
        case rel => exact ⟨j + 1, m, c, p, l, by go_num, by omega, rfl, by omega, E2, O2, B1⟩
        case measure => simp [intOf]; omega
      · obtain ⟨n0, n1⟩ := N ho
        obtain ⟨sn, hsn⟩ := Int.eq_ofNat_of_zero_le n0
        obtain ⟨xo, xb, xn⟩ := x
        simp only at *
        subst hsn
        rw [Int.toNat_natCast] at *
        have E2 : Hid (l ++ [sn] = usesN (xs.take (j + 1)) ∧ m + 1 = (l ++ [sn]).length) := hid ⟨by rw [T, ho, E.out.1]; simp, by rw [List.length_append, ← E.out.2]; rfl⟩
        have hk2 := hk.alloc hk.size (.cells #[.int .i64 (sn : Int)] 3)
        have B2 := hid (B1.out.alloc B1.out.size (.cells #[.int .i64 (sn : Int)] 3))
        have O2 : Hid (((wr.alloc (.cells #[.int .i64 xo, .int .i64 xb, .int .u64 (sn : Int)] 52)).alloc (.cells #[.int .i64 (sn : Int)] 3)).ownsRow w.heap.size 3 1 (.slice p m c) m (l.flatMap cellI)) := hid (own_keep O.out (fun g hg hl => hk2.block g hl))
        have R2 : Hid (RowOf cellI 1 (fun _ _ => True) ((wr.alloc (.cells #[.int .i64 xo, .int .i64 xb, .int .u64 (sn : Int)] 52)).alloc (.cells #[.int .i64 (sn : Int)] 3)) (.slice (some ⟨wr.heap.size + 1, 0, none⟩) 1 1) [sn]) := hid (by
          have h3 := BoxAt.new (wr.alloc (.cells #[.int .i64 xo, .int .i64 xb, .int .u64 (sn : Int)] 52)) #[.int .i64 (sn : Int)] 3
          simp only [World.size_alloc] at h3
          refine RowOf.one ?_ trivial
          simpa [cellI] using h3)
        have wn : wrap64 (sn : Int) = (sn : Int) := by unfold wrap64; omega
        clear E O B hk hk2 T N
        go_wp2_with (first
          | (at_builtin; refine wl_append_row rfl _ _ 45 rfl w.heap.size 3 (.int .i64 0) 1 8 Tryd.underlying45 info3 rfl (by decide) (.slice p m c) rfl m (l.flatMap cellI) O2.out _ rfl (cells := cellI) (ok := fun _ _ => True) (fun _ => rfl) [sn] R2.out (by simp [cellI, Value.oneCell']) (by simp; omega) (by decide) B2.out.size ?_; intro v' w5 o5 g5 h5; obtain ⟨p2, c2', rfl⟩ := own_slice o5))
        go_roundw
        case rel =>
          refine ⟨j + 1, m + 1, c2', p2, l ++ [sn], by go_num, by omega, rfl, by omega, E2, hid ?_, hid (B2.out.trans ((Below.refl w.heap.size _).grown g5 B2.out.size (fun q hq => (own_lt O2.out hq).1)))⟩
          rw [List.flatMap_append]
          exact o5
        case measure => simp [intOf]; omega
    · have e : j = n := by omega
      subst e
      have ee := E.out
      rw [HA.out] at ee
      obtain ⟨rfl, e2⟩ := ee
      clear HX HT HN E
      go_wp2
      go_ret
      exact ⟨_, rfl, by rw [e2] at O; rw [← e2]; exact e2 ▸ O.out, B.out⟩
end Go.Proofs.YtkdpcaoocmbbhaaDoor
