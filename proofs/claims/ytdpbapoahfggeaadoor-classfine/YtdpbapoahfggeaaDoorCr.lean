/- Rows of numbers, and of rows, that are only read; the contract of Of. -/
import Derived.Test.YtdpbapoahfggeaaDoorEmc
import Derived.Test.YtdpbapoahfggeaaDoorInR
import Derived.Test.YtdpbapoahfggeaaDoorCm
namespace Go.Proofs.YtdpbapoahfggeaaDoor
open Go.ChangeShapes Go.WideShapes Go.ChangeAt Go.RowKit
set_option linter.unusedVariables false
set_option linter.unusedSimpArgs false
attribute [local go_sem] Oper.semAt_some

/-- A row of things, each of one cell, that is read. -/
def ValsR (w : World) (v : Value) (us : List Value) : Prop :=
  ∃ a c, v = .slice a us.length c ∧ us.length ≤ 9223372036854775807 ∧ ∀ i u, us[i]? = some u → ∃ b off, a = some ⟨b, off, none⟩ ∧ b < w.heap.size ∧ w.cell? ⟨b, off + i, none⟩ = some u
theorem ValsR.kept {w w' : World} {v : Value} {us : List Value} (h : ValsR w v us) (k : Below w.heap.size w w') : ValsR w' v us := by
  obtain ⟨a, c, e, n, h⟩ := h
  refine ⟨a, c, e, n, fun i u hu => ?_⟩
  obtain ⟨b, off, h1, h2, h3⟩ := h i u hu
  exact ⟨b, off, h1, Nat.lt_of_lt_of_le h2 k.size, by rw [k.cell h2]; exact h3⟩
def iV (n : Nat) : Value := .int .i64 (n : Int)
abbrev NumR (w : World) (v : Value) (l : List Nat) : Prop := ValsR w v (l.map nV)
abbrev IntR (w : World) (v : Value) (l : List Nat) : Prop := ValsR w v (l.map iV)
theorem ValsR.form {w : World} {v : Value} {us : List Value} (h : ValsR w v us) : ∃ a c, v = .slice a us.length c := by
  obtain ⟨a, c, e, _⟩ := h
  exact ⟨a, c, e⟩
theorem IntR.open {w : World} {v : Value} {l : List Nat} (h : IntR w v l) : ∃ a c, v = .slice a l.length c ∧ l.length ≤ 9223372036854775807 ∧ ∀ i, i < l.length → ∃ b off, a = some ⟨b, off, none⟩ ∧ b < w.heap.size ∧ w.cell? ⟨b, off + i, none⟩ = some (.int .i64 ((l.getD i 0 : Nat) : Int)) := by
  obtain ⟨a, c, e, n, h⟩ := h
  refine ⟨a, c, by rw [e, List.length_map], by simpa using n, fun i hi => ?_⟩
  have := h i (iV (l.getD i 0)) (by simp [List.getD, hi])
  exact this
theorem NumR.open {w : World} {v : Value} {l : List Nat} (h : NumR w v l) : ∃ a c, v = .slice a l.length c ∧ l.length ≤ 9223372036854775807 ∧ ∀ i, i < l.length → ∃ b off, a = some ⟨b, off, none⟩ ∧ b < w.heap.size ∧ w.cell? ⟨b, off + i, none⟩ = some (.int .u64 ((l.getD i 0 : Nat) : Int)) := by
  obtain ⟨a, c, e, n, h⟩ := h
  refine ⟨a, c, by rw [e, List.length_map], by simpa using n, fun i hi => ?_⟩
  have := h i (nV (l.getD i 0)) (by simp [List.getD, hi])
  exact this

/-! ### Of -/

structure OfW (w : World) (v : Value) (x : Nat) (n : Nat) (k : Nat) (X : World) : Prop where
  b0 : VarAt X w.heap.size [v] 25
  b1 : VarAt X (w.heap.size + 1) [.int .i64 0] 3
  gone : ∀ i, i < k → ∀ m, (bitsL x)[i]? = some m → n ≤ m
  bel : Below w.heap.size w X
/-- Left with an answer. -/
structure OfD (w : World) (r : Nat) (X : World) : Prop where
  b1 : VarAt X (w.heap.size + 1) [.int .i64 (r : Int)] 3
  bel : Below w.heap.size w X
theorem OfW.aside {w : World} {v : Value} {x n k : Nat} {X X' : World} (h : OfW w v x n k X) (ht : Touch (fun b => b = w.heap.size + 3 ∨ b = w.heap.size + 4) X X') : OfW w v x n k X' :=
  ⟨h.b0.touch ht (by omega), h.b1.touch ht (by omega), h.gone, below_touch h.bel ht (fun i hi => by omega)⟩
theorem OfW.kept {w : World} {v : Value} {x n k : Nat} {X X' : World} (h : OfW w v x n k X) (ht : Below X.heap.size X X') : OfW w v x n k X' :=
  ⟨h.b0.kept ht, h.b1.kept ht, h.gone, h.bel.trans (ht.mono h.bel.size)⟩
theorem OfD.aside {w : World} {r : Nat} {X X' : World} (h : OfD w r X) (ht : Touch (fun b => b = w.heap.size + 3 ∨ b = w.heap.size + 4) X X') : OfD w r X' :=
  ⟨h.b1.touch ht (by omega), below_touch h.bel ht (fun i hi => by omega)⟩
theorem OfW.next {w : World} {v : Value} {x n k q : Nat} {X : World} (h : OfW w v x n k X) (hq : (bitsL x)[k]? = some q) (hn : n ≤ q) : OfW w v x n (k + 1) X :=
  ⟨h.b0, h.b1, fun i hi m hm => by
    by_cases e : i = k
    · rw [e, hq] at hm; cases hm; exact hn
    · exact h.gone i (by omega) m hm, h.bel⟩
/-- The bits rise. -/
theorem bitsF_sort {s : Nat} : ∀ (n i : Nat) (j k a b : Nat), (bitsF s i n)[j]? = some a → (bitsF s i n)[k]? = some b → j < k → a < b
  | 0, i, j, k, a, b, h, _, _ => by simp [bitsF] at h
  | n + 1, i, j, k, a, b, h1, h2, h3 => by
    cases hs : s.testBit i
    · rw [bitsF_no n hs] at h1 h2; exact bitsF_sort n (i + 1) j k a b h1 h2 h3
    · rw [bitsF_yes n hs] at h1 h2
      cases k with
      | zero => omega
      | succ k =>
        rw [List.getElem?_cons_succ] at h2
        cases j with
        | zero =>
          simp at h1
          subst h1
          have := (mem_bitsF n (i + 1)).1 (List.mem_of_getElem? h2)
          omega
        | succ j =>
          rw [List.getElem?_cons_succ] at h1
          exact bitsF_sort n (i + 1) j k a b h1 h2 (by omega)
theorem of_at {x k q : Nat} {l : List Nat} (hq : (bitsL x)[k]? = some q) (hg : ∀ i, i < k → ∀ m, (bitsL x)[i]? = some m → l.length ≤ m) (hl : q < l.length) : ofL x l = l.getD q 0 := by
  cases k with
  | zero =>
    cases e : bitsL x with
    | nil => rw [e] at hq; simp at hq
    | cons m t => rw [e] at hq; simp at hq; subst hq; exact ofL_cons l e
  | succ k =>
    cases e : bitsL x with
    | nil => rw [e] at hq; simp at hq
    | cons m t =>
      have h0 : (bitsL x)[0]? = some m := by rw [e]; rfl
      have := hg 0 (by omega) m h0
      have := bitsF_sort 64 0 0 (k + 1) m q h0 hq (by omega)
      omega
theorem of_none {x : Nat} {l : List Nat} (hg : ∀ i, i < (bitsL x).length → ∀ m, (bitsL x)[i]? = some m → l.length ≤ m) : ofL x l = 0 := by
  cases e : bitsL x with
  | nil => exact ofL_nil l e
  | cons m t =>
    rw [ofL_cons l e]
    have := hg 0 (by rw [e]; simp) m (by rw [e]; rfl)
    simp [List.getD, List.getElem?_eq_none this]
theorem size3 : (Tryd.prog.info? 3).map (·.size) = some 1 := by kernel_rfl
theorem load3 (X : World) (b : Nat) (n : Int) (h : X.cell? ⟨b, 0, none⟩ = some (.int .i64 n)) : (loadVar 3 ⟨b, 0, none⟩).run Tryd.prog X = .ok (.int .i64 n) X := by
  go_simp
theorem results_cell1 {fn : Func} {t ty : Nat} (h : fn.results = #[.cell t ty]) (tmps : Array Value) (w : World) (b : Nat) (v : Value) (h1 : tmps.getD t undef = .pointer (some ⟨b, 0, none⟩))
    (l1 : (loadVar ty ⟨b, 0, none⟩).run Tryd.prog w = .ok v w) : (results fn tmps).run Tryd.prog w = .ok v w := by
  rw [Array.getD_eq_getD_getElem?] at h1
  simp [results, h, h1, asAddr, l1]

theorem wli_store_cell {F : Fence} {n : Nat} {ops : Array Oper} {rest : List Oper} {op : Oper} {a : Act} {w : World} {Q : Exit → Act → World → Prop} (hgd : op.guard = none) (ty : TypeId) (x y : Operand) (ho : op.op = .store ty x y)
    (b o : Nat) (hx : a.eval x = .pointer (some ⟨b, o, none⟩)) (u : Value) (hy : a.eval y = u) (hT : (Tryd.prog.info? ty).map (·.size) = some 1) (h1 : u.oneCell' = true)
    (cs : List Value) (t : TypeId) (hv : VarAt w b cs t) (hl : o < cs.length)
    (h : ∀ w', VarAt w' b (cs.set o u) t → Turned b w w' → wpListIn F n Tryd.prog ops Q rest (a.put op.dst undef) w') : wpListIn F n Tryd.prog ops Q (op :: rest) a w := by
  refine wpListIn_plain hgd fun K hK => ?_
  unfold Oper.wpIn
  refine ⟨by simp [Oper.about, ho], ?_⟩
  rw [Oper.semAt_plain F _ _ (by rw [ho]; intro c hc'; cases hc')]
  simp only [execOp, ho, hx, hy, Instr.storeAt, Instr.sureAddr, Sem.run_bind, Sem.run_pure, Result.andThen_ok, run_store_cell ty b o u hT h1 cs t hv hl]
  exact hK _ _ (h _ (hv.set o u) (Turned.sets b [u] o w))

set_option maxRecDepth 100000 in
set_option maxHeartbeats 1000000 in
theorem of_any (x : Nat) (hx : x < 18446744073709551616) (v : Value) (l : List Nat) (w : World) (hv : IntR w v l) (hTab : Tab w) :
    Calls Tryd.prog 12 #[.int .u64 (x : Int), v] w fun e w' => e = .returned (.int .i64 (ofL x l : Nat)) ∧ Below w.heap.size w w' := by
  have hb0 := hTab.lt
  obtain ⟨va, vc, rfl, hvn, hR⟩ := hv.open
  have hRX := hid (fun X (h : Below w.heap.size w X) i (hi : i < l.length) => (show ∃ b off, va = some ⟨b, off, none⟩ ∧ X.cell? ⟨b, off + i, none⟩ = some (.int .i64 ((l.getD i 0 : Nat) : Int)) from by
    obtain ⟨b, off, h1, h2, h3⟩ := hR i hi
    exact ⟨b, off, h1, by rw [h.cell h2]; exact h3⟩))
  replace hTab := hid hTab
  clear hv hR
  refine (callsIn_wide (n := 3)).1 ?_
  refine callsIn_of_wp_marks Tryd.func12 rfl trivial ?_ rfl
  simp only [Tryd.ntmps12, List.size_toArray, List.length_cons, List.length_nil, Nat.reduceAdd, Nat.reduceSub, Array.replicate_succ, Array.replicate_zero, List.push_toArray, List.append_toArray, List.nil_append, List.cons_append]
  have K1 := VarAt.new w [.slice va l.length vc] 25
  have K2 := VarAt.new (w.alloc (.cells #[.slice va l.length vc] 25)) [.int .i64 0] 3
  gi_wp2_with (refine ⟨trivial, ?_⟩; gi_at_call 18; refine (callsIn_wide.2 (each_any _ _)).mono ?_; rintro _ w' ⟨rfl, rfl⟩)
  have B2 := below2 w (.cells #[.slice va l.length vc] 25) (.cells #[.int .i64 0] 3)
  have BZ := B2.alloc B2.size (.cells #[.int .u64 (x : Int)] 23)
  have D0 : OfW w (.slice va l.length vc) x l.length 0 (((w.alloc (.cells #[.slice va l.length vc] 25)).alloc (.cells #[.int .i64 0] 3)).alloc (.cells #[.int .u64 (x : Int)] 23)) := by
    refine ⟨(K1.past _).past _, ?_, fun i hi => by omega, BZ⟩
    have := K2.past (.cells #[.int .u64 (x : Int)] 23)
    simpa using this
  have TZ : Tab (((w.alloc (.cells #[.slice va l.length vc] 25)).alloc (.cells #[.int .i64 0] 3)).alloc (.cells #[.int .u64 (x : Int)] 23)) := hTab.out.below BZ hTab.out.lt
  have nc := new_cell ((w.alloc (.cells #[.slice va l.length vc] 25)).alloc (.cells #[.int .i64 0] 3)) #[.int .u64 (x : Int)] 23 0 _ rfl
  simp only [World.size_alloc] at nc
  have hS := fun n' => each1_seq (fun b => b = w.heap.size + 1) (fun q => by omega) x hx (w.heap.size + 1 + 1) _ nc TZ n'
  clear nc
  replace hS := hid hS
  have sZ : (((w.alloc (.cells #[.slice va l.length vc] 25)).alloc (.cells #[.int .i64 0] 3)).alloc (.cells #[.int .u64 (x : Int)] 23)).heap.size = w.heap.size + 3 := by simp
  generalize hZ : ((w.alloc (.cells #[.slice va l.length vc] 25)).alloc (.cells #[.int .i64 0] 3)).alloc (.cells #[.int .u64 (x : Int)] 23) = Z at *
  clear hZ K1 K2 B2 BZ TZ
  replace D0 := hid D0
  refine wpIn_range3 rfl rfl (gf := 27) (lb := #[.pointer (some ⟨w.heap.size + 1 + 1, 0, none⟩)]) rfl trivial (enters_of Tryd.func27 (by kernel_rfl) rfl) hS.out ⟨fun q => by omega, fun q => by omega⟩ (fun k args W h => by obtain ⟨x, _, rfl⟩ := h; rfl)
    (fun k X => OfW w (.slice va l.length vc) x l.length k X) (fun c X => c = .ret ∧ OfD w (ofL x l) X) ?hI ?hIx ?h0 (fun k a' X => ∃ q : Nat, (bitsL x)[k]? = some q ∧ a' = { tmps := (.int .u64 (x : Int) :: .slice va l.length vc :: undef :: .pointer (some ⟨w.heap.size, 0, none⟩) :: .pointer (some ⟨w.heap.size + 1, 0, none⟩) :: .int .i64 (q : Int) :: .int .u64 (x : Int) :: .func (.func 27) #[] #[.pointer (some ⟨w.heap.size + 1 + 1, 0, none⟩)] :: .int .i64 (q : Int) :: undef :: undef :: undef :: undef :: undef :: undef :: undef :: undef :: []).toArray, defers := [] }) ?hA ?assign ?body ?done ?stop
  case hI =>
    rintro k X X' hz h ht
    exact h.aside (ht.mono (fun i _ e => by omega))
  case hIx =>
    rintro k X X' hz ⟨e, h⟩ ht
    exact ⟨e, h.aside (ht.mono (fun i _ e => by omega))⟩
  case h0 =>
    intro X hb hz
    exact D0.out.kept hb
  case hA => exact fun k a' X X' h _ _ => h
  case assign =>
    rintro lp k args X K ⟨q, hq, rfl⟩ hsz hK
    gi_wp2
    exact hK _ _ (Below.refl _ _) ⟨q, hq, rfl⟩
  case body =>
    rintro lp k a' X hG hk ⟨q, hq, rfl⟩ hsz
    have x0 := hG.b0.cell 0 rfl
    have HX : w.heap.size + 5 ≤ X.heap.size := by omega
    by_cases hl : q < l.length
    · obtain ⟨b, off, rfl, hc⟩ := hRX.out X hG.bel q hl
      have ea := of_at hq hG.gone hl
      generalize hy : l.getD q 0 = y at *
      have G1 := hid hG.b1
      have GB := hid hG.bel
      replace ea := hid ea
      have hl' : (q : Int) < (l.length : Int) := by omega
      clear hG hS D0 hTab hRX
      gi_wp2_with (refine wli_store_cell rfl 3 _ _ rfl (w.heap.size + 1) 0 rfl _ rfl size3 rfl _ _ G1.out (by simp) ?_; intro w6 hv ht)
      refine ⟨ht.t1, rfl, ?_, ht.below GB.out (by omega)⟩
      rw [ea.out]
      exact hv
    · have hl' : ¬ (q : Int) < (l.length : Int) := by omega
      have GN := hid (hG.next hq (by omega))
      clear hG hS D0 hTab hRX
      gi_wp2_with fail
      exact ⟨Touch.refl _ _, GN.out⟩
  case done =>
    rintro D X h hD hK
    have e0 : ofL x l = 0 := of_none h.gone
    have G1 := hid h.b1
    have GB := hid h.bel
    replace hK := hid hK
    clear hS D0 h hTab hRX
    gi_wp2_with (refine wli_store_cell rfl 3 _ _ rfl (w.heap.size + 1) 0 rfl _ rfl size3 rfl _ _ G1.out (by simp) ?_; intro w6 hv ht)
    have hK6 : w6.heap[D]? = some (.deferred (some [])) := (ht.block D (by omega)).trans hK.out
    refine ⟨by simp, .inl ⟨_, _, rfl, run_takeDeferred hK6, ?_⟩⟩
    have tp : Touch (fun b => b = D) w6 (w6.putObj D (.deferred none)) := Touch.putObj _ _ _ rfl
    have hv2 := VarAt.touch hv tp (by omega)
    refine ⟨_, results_cell1 (fn := Tryd.f12) (t := 4) (ty := 3) rfl _ _ (w.heap.size + 1) _ rfl (load3 _ _ 0 (hv2.cell 0 rfl)), by rw [e0]; rfl, below_touch (ht.below GB.out (by omega)) tp (fun i hi => by omega)⟩
  case stop =>
    rintro D c X ⟨rfl, h⟩ hD hK
    have G1 := hid h.b1
    have GB := hid h.bel
    replace hK := hid hK
    clear hS D0 h hTab hRX
    gi_wp2_with fail
    refine ⟨by simp, .inl ⟨_, _, rfl, run_takeDeferred hK.out, ?_⟩⟩
    have tp : Touch (fun b => b = D) X (X.putObj D (.deferred none)) := Touch.putObj _ _ _ rfl
    have hv2 := VarAt.touch G1.out tp (by omega)
    refine ⟨_, results_cell1 (fn := Tryd.f12) (t := 4) (ty := 3) rfl _ _ (w.heap.size + 1) _ rfl (load3 _ _ _ (hv2.cell 0 rfl)), rfl, below_touch GB.out tp (fun i hi => by omega)⟩
end Go.Proofs.YtdpbapoahfggeaaDoor
