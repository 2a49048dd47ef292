/- Cr, Jn -/
import Derived.Test.YtdpbapoahfggeaaDoorEmc
import Derived.Test.YtdpbapoahfggeaaDoorM07
import Derived.Test.YtdpbapoahfggeaaDoorM00
/- Rows of numbers, and of rows, that are only read; the contract of Of. -/
namespace Go.Proofs.YtdpbapoahfggeaaDoor
open Go.ChangeShapes Go.WideShapes Go.ChangeAt Go.RowKit
set_option linter.unusedVariables false
set_option linter.unusedSimpArgs false
attribute [local go_sem] Oper.semAt_some

/-- A row of things, each of one cell, that is read. -/
def ValsR (w : World) (v : Value) (us : List Value) : Prop :=
  ∃ a c, v = .slice a us.length c ∧ us.length ≤ 9223372036854775807 ∧ ∀ i u, us[i]? = some u → ∃ b off, a = some ⟨b, off, none⟩ ∧ b < w.heap.size ∧ w.cell? ⟨b, off + i, none⟩ = some u
theorem ValsR.kept {w w' : World} {v : Value} {us : List Value} (h : ValsR w v us) (k : Below w.heap.size w w') : ValsR w' v us := by
  obtain ⟨a, c, e, n, h⟩ := h
  refine ⟨a, c, e, n, fun i u hu => ?_⟩
  obtain ⟨b, off, h1, h2, h3⟩ := h i u hu
  exact ⟨b, off, h1, Nat.lt_of_lt_of_le h2 k.size, by rw [k.cell h2]; exact h3⟩
def iV (n : Nat) : Value := .int .i64 (n : Int)
abbrev NumR (w : World) (v : Value) (l : List Nat) : Prop := ValsR w v (l.map nV)
abbrev IntR (w : World) (v : Value) (l : List Nat) : Prop := ValsR w v (l.map iV)
theorem ValsR.form {w : World} {v : Value} {us : List Value} (h : ValsR w v us) : ∃ a c, v = .slice a us.length c := by
  obtain ⟨a, c, e, _⟩ := h
  exact ⟨a, c, e⟩
theorem IntR.open {w : World} {v : Value} {l : List Nat} (h : IntR w v l) : ∃ a c, v = .slice a l.length c ∧ l.length ≤ 9223372036854775807 ∧ ∀ i, i < l.length → ∃ b off, a = some ⟨b, off, none⟩ ∧ b < w.heap.size ∧ w.cell? ⟨b, off + i, none⟩ = some (.int .i64 ((l.getD i 0 : Nat) : Int)) := by
  obtain ⟨a, c, e, n, h⟩ := h
  refine ⟨a, c, by rw [e, List.length_map], by simpa using n, fun i hi => ?_⟩
  have := h i (iV (l.getD i 0)) (by simp [List.getD, hi])
  exact this
theorem NumR.open {w : World} {v : Value} {l : List Nat} (h : NumR w v l) : ∃ a c, v = .slice a l.length c ∧ l.length ≤ 9223372036854775807 ∧ ∀ i, i < l.length → ∃ b off, a = some ⟨b, off, none⟩ ∧ b < w.heap.size ∧ w.cell? ⟨b, off + i, none⟩ = some (.int .u64 ((l.getD i 0 : Nat) : Int)) := by
  obtain ⟨a, c, e, n, h⟩ := h
  refine ⟨a, c, by rw [e, List.length_map], by simpa using n, fun i hi => ?_⟩
  have := h i (nV (l.getD i 0)) (by simp [List.getD, hi])
  exact this

/-! ### Of -/

structure OfW (w : World) (v : Value) (x : Nat) (n : Nat) (k : Nat) (X : World) : Prop where
  b0 : VarAt X w.heap.size [v] 25
  b1 : VarAt X (w.heap.size + 1) [.int .i64 0] 3
  gone : ∀ i, i < k → ∀ m, (bitsL x)[i]? = some m → n ≤ m
  bel : Below w.heap.size w X
/-- Left with an answer. -/
structure OfD (w : World) (r : Nat) (X : World) : Prop where
  b1 : VarAt X (w.heap.size + 1) [.int .i64 (r : Int)] 3
  bel : Below w.heap.size w X
theorem OfW.aside {w : World} {v : Value} {x n k : Nat} {X X' : World} (h : OfW w v x n k X) (ht : Touch (fun b => b = w.heap.size + 3 ∨ b = w.heap.size + 4) X X') : OfW w v x n k X' :=
  ⟨h.b0.touch ht (by omega), h.b1.touch ht (by omega), h.gone, below_touch h.bel ht (fun i hi => by omega)⟩
theorem OfW.kept {w : World} {v : Value} {x n k : Nat} {X X' : World} (h : OfW w v x n k X) (ht : Below X.heap.size X X') : OfW w v x n k X' :=
  ⟨h.b0.kept ht, h.b1.kept ht, h.gone, h.bel.trans (ht.mono h.bel.size)⟩
theorem OfD.aside {w : World} {r : Nat} {X X' : World} (h : OfD w r X) (ht : Touch (fun b => b = w.heap.size + 3 ∨ b = w.heap.size + 4) X X') : OfD w r X' :=
  ⟨h.b1.touch ht (by omega), below_touch h.bel ht (fun i hi => by omega)⟩
theorem OfW.next {w : World} {v : Value} {x n k q : Nat} {X : World} (h : OfW w v x n k X) (hq : (bitsL x)[k]? = some q) (hn : n ≤ q) : OfW w v x n (k + 1) X :=
  ⟨h.b0, h.b1, fun i hi m hm => by
    by_cases e : i = k
    · rw [e, hq] at hm; cases hm; exact hn
    · exact h.gone i (by omega) m hm, h.bel⟩
/-- The bits rise. -/
theorem bitsF_sort {s : Nat} : ∀ (n i : Nat) (j k a b : Nat), (bitsF s i n)[j]? = some a → (bitsF s i n)[k]? = some b → j < k → a < b
  | 0, i, j, k, a, b, h, _, _ => by simp [bitsF] at h
  | n + 1, i, j, k, a, b, h1, h2, h3 => by
    cases hs : s.testBit i
    · rw [bitsF_no n hs] at h1 h2; exact bitsF_sort n (i + 1) j k a b h1 h2 h3
    · rw [bitsF_yes n hs] at h1 h2
      cases k with
      | zero => omega
      | succ k =>
        rw [List.getElem?_cons_succ] at h2
        cases j with
        | zero =>
          simp at h1
          subst h1
          have := (mem_bitsF n (i + 1)).1 (List.mem_of_getElem? h2)
          omega
        | succ j =>
          rw [List.getElem?_cons_succ] at h1
          exact bitsF_sort n (i + 1) j k a b h1 h2 (by omega)
theorem of_at {x k q : Nat} {l : List Nat} (hq : (bitsL x)[k]? = some q) (hg : ∀ i, i < k → ∀ m, (bitsL x)[i]? = some m → l.length ≤ m) (hl : q < l.length) : ofL x l = l.getD q 0 := by
  cases k with
  | zero =>
    cases e : bitsL x with
    | nil => rw [e] at hq; simp at hq
    | cons m t => rw [e] at hq; simp at hq; subst hq; exact ofL_cons l e
  | succ k =>
    cases e : bitsL x with
    | nil => rw [e] at hq; simp at hq
    | cons m t =>
      have h0 : (bitsL x)[0]? = some m := by rw [e]; rfl
      have := hg 0 (by omega) m h0
      have := bitsF_sort 64 0 0 (k + 1) m q h0 hq (by omega)
      omega
theorem of_none {x : Nat} {l : List Nat} (hg : ∀ i, i < (bitsL x).length → ∀ m, (bitsL x)[i]? = some m → l.length ≤ m) : ofL x l = 0 := by
  cases e : bitsL x with
  | nil => exact ofL_nil l e
  | cons m t =>
    rw [ofL_cons l e]
    have := hg 0 (by rw [e]; simp) m (by rw [e]; rfl)
    simp [List.getD, List.getElem?_eq_none this]
theorem size3 : (Tryd.prog.info? 3).map (·.size) = some 1 := by kernel_rfl
theorem load3 (X : World) (b : Nat) (n : Int) (h : X.cell? ⟨b, 0, none⟩ = some (.int .i64 n)) : (loadVar 3 ⟨b, 0, none⟩).run Tryd.prog X = .ok (.int .i64 n) X := by
  go_simp
theorem results_cell1 {fn : Func} {t ty : Nat} (h : fn.results = #[.cell t ty]) (tmps : Array Value) (w : World) (b : Nat) (v : Value) (h1 : tmps.getD t undef = .pointer (some ⟨b, 0, none⟩))
    (l1 : (loadVar ty ⟨b, 0, none⟩).run Tryd.prog w = .ok v w) : (results fn tmps).run Tryd.prog w = .ok v w := by
  rw [Array.getD_eq_getD_getElem?] at h1
  simp [results, h, h1, asAddr, l1]

theorem wli_store_cell {F : Fence} {n : Nat} {ops : Array Oper} {rest : List Oper} {op : Oper} {a : Act} {w : World} {Q : Exit → Act → World → Prop} (hgd : op.guard = none) (ty : TypeId) (x y : Operand) (ho : op.op = .store ty x y)
    (b o : Nat) (hx : a.eval x = .pointer (some ⟨b, o, none⟩)) (u : Value) (hy : a.eval y = u) (hT : (Tryd.prog.info? ty).map (·.size) = some 1) (h1 : u.oneCell' = true)
    (cs : List Value) (t : TypeId) (hv : VarAt w b cs t) (hl : o < cs.length)
    (h : ∀ w', VarAt w' b (cs.set o u) t → Turned b w w' → wpListIn F n Tryd.prog ops Q rest (a.put op.dst undef) w') : wpListIn F n Tryd.prog ops Q (op :: rest) a w := by
  refine wpListIn_plain hgd fun K hK => ?_
  unfold Oper.wpIn
  refine ⟨by simp [Oper.about, ho], ?_⟩
  rw [Oper.semAt_plain F _ _ (by rw [ho]; intro c hc'; cases hc')]
  simp only [execOp, ho, hx, hy, Instr.storeAt, Instr.sureAddr, Sem.run_bind, Sem.run_pure, Result.andThen_ok, run_store_cell ty b o u hT h1 cs t hv hl]
  exact hK _ _ (h _ (hv.set o u) (Turned.sets b [u] o w))

set_option maxRecDepth 100000 in
set_option maxHeartbeats 1000000 in
theorem of_any (x : Nat) (hx : x < 18446744073709551616) (v : Value) (l : List Nat) (w : World) (hv : IntR w v l) (hTab : Tab w) :
    Calls Tryd.prog 12 #[.int .u64 (x : Int), v] w fun e w' => e = .returned (.int .i64 (ofL x l : Nat)) ∧ Below w.heap.size w w' := by
  have hb0 := hTab.lt
  obtain ⟨va, vc, rfl, hvn, hR⟩ := hv.open
  have hRX := hid (fun X (h : Below w.heap.size w X) i (hi : i < l.length) => (show ∃ b off, va = some ⟨b, off, none⟩ ∧ X.cell? ⟨b, off + i, none⟩ = some (.int .i64 ((l.getD i 0 : Nat) : Int)) from by
    obtain ⟨b, off, h1, h2, h3⟩ := hR i hi
    exact ⟨b, off, h1, by rw [h.cell h2]; exact h3⟩))
  replace hTab := hid hTab
  clear hv hR
  refine (callsIn_wide (n := 3)).1 ?_
  refine callsIn_of_wp_marks Tryd.func12 rfl trivial ?_ rfl
  simp only [Tryd.ntmps12, List.size_toArray, List.length_cons, List.length_nil, Nat.reduceAdd, Nat.reduceSub, Array.replicate_succ, Array.replicate_zero, List.push_toArray, List.append_toArray, List.nil_append, List.cons_append]
  have K1 := VarAt.new w [.slice va l.length vc] 25
  have K2 := VarAt.new (w.alloc (.cells #[.slice va l.length vc] 25)) [.int .i64 0] 3
  gi_wp2_with (refine ⟨trivial, ?_⟩; gi_at_call 18; refine (callsIn_wide.2 (each_any _ _)).mono ?_; rintro _ w' ⟨rfl, rfl⟩)
  have B2 := below2 w (.cells #[.slice va l.length vc] 25) (.cells #[.int .i64 0] 3)
  have BZ := B2.alloc B2.size (.cells #[.int .u64 (x : Int)] 23)
  have D0 : OfW w (.slice va l.length vc) x l.length 0 (((w.alloc (.cells #[.slice va l.length vc] 25)).alloc (.cells #[.int .i64 0] 3)).alloc (.cells #[.int .u64 (x : Int)] 23)) := by
    refine ⟨(K1.past _).past _, ?_, fun i hi => by omega, BZ⟩
    have := K2.past (.cells #[.int .u64 (x : Int)] 23)
    simpa using this
  have TZ : Tab (((w.alloc (.cells #[.slice va l.length vc] 25)).alloc (.cells #[.int .i64 0] 3)).alloc (.cells #[.int .u64 (x : Int)] 23)) := hTab.out.below BZ hTab.out.lt
  have nc := new_cell ((w.alloc (.cells #[.slice va l.length vc] 25)).alloc (.cells #[.int .i64 0] 3)) #[.int .u64 (x : Int)] 23 0 _ rfl
  simp only [World.size_alloc] at nc
  have hS := fun n' => each1_seq (fun b => b = w.heap.size + 1) (fun q => by omega) x hx (w.heap.size + 1 + 1) _ nc TZ n'
  clear nc
  replace hS := hid hS
  have sZ : (((w.alloc (.cells #[.slice va l.length vc] 25)).alloc (.cells #[.int .i64 0] 3)).alloc (.cells #[.int .u64 (x : Int)] 23)).heap.size = w.heap.size + 3 := by simp
  generalize hZ : ((w.alloc (.cells #[.slice va l.length vc] 25)).alloc (.cells #[.int .i64 0] 3)).alloc (.cells #[.int .u64 (x : Int)] 23) = Z at *
  clear hZ K1 K2 B2 BZ TZ
  replace D0 := hid D0
  refine wpIn_range3 rfl rfl (gf := 27) (lb := #[.pointer (some ⟨w.heap.size + 1 + 1, 0, none⟩)]) rfl trivial (enters_of Tryd.func27 (by kernel_rfl) rfl) hS.out ⟨fun q => by omega, fun q => by omega⟩ (fun k args W h => by obtain ⟨x, _, rfl⟩ := h; rfl)
    (fun k X => OfW w (.slice va l.length vc) x l.length k X) (fun c X => c = .ret ∧ OfD w (ofL x l) X) ?hI ?hIx ?h0 (fun k a' X => ∃ q : Nat, (bitsL x)[k]? = some q ∧ a' = { tmps := (.int .u64 (x : Int) :: .slice va l.length vc :: undef :: .pointer (some ⟨w.heap.size, 0, none⟩) :: .pointer (some ⟨w.heap.size + 1, 0, none⟩) :: .int .i64 (q : Int) :: .int .u64 (x : Int) :: .func (.func 27) #[] #[.pointer (some ⟨w.heap.size + 1 + 1, 0, none⟩)] :: .int .i64 (q : Int) :: undef :: undef :: undef :: undef :: undef :: undef :: undef :: undef :: []).toArray, defers := [] }) ?hA ?assign ?body ?done ?stop
  case hI =>
    rintro k X X' hz h ht
    exact h.aside (ht.mono (fun i _ e => by omega))
  case hIx =>
    rintro k X X' hz ⟨e, h⟩ ht
    exact ⟨e, h.aside (ht.mono (fun i _ e => by omega))⟩
  case h0 =>
    intro X hb hz
    exact D0.out.kept hb
  case hA => exact fun k a' X X' h _ _ => h
  case assign =>
    rintro lp k args X K ⟨q, hq, rfl⟩ hsz hK
    gi_wp2
    exact hK _ _ (Below.refl _ _) ⟨q, hq, rfl⟩
  case body =>
    rintro lp k a' X hG hk ⟨q, hq, rfl⟩ hsz
    have x0 := hG.b0.cell 0 rfl
    have HX : w.heap.size + 5 ≤ X.heap.size := by omega
    by_cases hl : q < l.length
    · obtain ⟨b, off, rfl, hc⟩ := hRX.out X hG.bel q hl
      have ea := of_at hq hG.gone hl
      generalize hy : l.getD q 0 = y at *
      have G1 := hid hG.b1
      have GB := hid hG.bel
      replace ea := hid ea
      have hl' : (q : Int) < (l.length : Int) := by omega
      clear hG hS D0 hTab hRX
      gi_wp2_with (refine wli_store_cell rfl 3 _ _ rfl (w.heap.size + 1) 0 rfl _ rfl size3 rfl _ _ G1.out (by simp) ?_; intro w6 hv ht)
      refine ⟨ht.t1, rfl, ?_, ht.below GB.out (by omega)⟩
      rw [ea.out]
      exact hv
    · have hl' : ¬ (q : Int) < (l.length : Int) := by omega
      have GN := hid (hG.next hq (by omega))
      clear hG hS D0 hTab hRX
      gi_wp2_with fail
      exact ⟨Touch.refl _ _, GN.out⟩
  case done =>
    rintro D X h hD hK
    have e0 : ofL x l = 0 := of_none h.gone
    have G1 := hid h.b1
    have GB := hid h.bel
    replace hK := hid hK
    clear hS D0 h hTab hRX
    gi_wp2_with (refine wli_store_cell rfl 3 _ _ rfl (w.heap.size + 1) 0 rfl _ rfl size3 rfl _ _ G1.out (by simp) ?_; intro w6 hv ht)
    have hK6 : w6.heap[D]? = some (.deferred (some [])) := (ht.block D (by omega)).trans hK.out
    refine ⟨by simp, .inl ⟨_, _, rfl, run_takeDeferred hK6, ?_⟩⟩
    have tp : Touch (fun b => b = D) w6 (w6.putObj D (.deferred none)) := Touch.putObj _ _ _ rfl
    have hv2 := VarAt.touch hv tp (by omega)
    refine ⟨_, results_cell1 (fn := Tryd.f12) (t := 4) (ty := 3) rfl _ _ (w.heap.size + 1) _ rfl (load3 _ _ 0 (hv2.cell 0 rfl)), by rw [e0]; rfl, below_touch (ht.below GB.out (by omega)) tp (fun i hi => by omega)⟩
  case stop =>
    rintro D c X ⟨rfl, h⟩ hD hK
    have G1 := hid h.b1
    have GB := hid h.bel
    replace hK := hid hK
    clear hS D0 h hTab hRX
    gi_wp2_with fail
    refine ⟨by simp, .inl ⟨_, _, rfl, run_takeDeferred hK.out, ?_⟩⟩
    have tp : Touch (fun b => b = D) X (X.putObj D (.deferred none)) := Touch.putObj _ _ _ rfl
    have hv2 := VarAt.touch G1.out tp (by omega)
    refine ⟨_, results_cell1 (fn := Tryd.f12) (t := 4) (ty := 3) rfl _ _ (w.heap.size + 1) _ rfl (load3 _ _ _ (hv2.cell 0 rfl)), rfl, below_touch GB.out tp (fun i hi => by omega)⟩
end Go.Proofs.YtdpbapoahfggeaaDoor
/- The contract of join: a set's sites, and what they are one with, are one. -/
namespace Go.Proofs.YtdpbapoahfggeaaDoor
open Go.ChangeShapes Go.WideShapes Go.ChangeAt Go.RowKit
set_option linter.unusedVariables false
set_option linter.unusedSimpArgs false
attribute [local go_sem] Oper.semAt_some

theorem touch_more {T U : Nat → Prop} {a b c : World} (h : Touch T a b) (k : Touch U b c) (hU : ∀ i, i < a.heap.size → U i → T i) : Touch T a c :=
  ⟨k.os.trans h.os, k.tape.trans h.tape, k.output.trans h.output, Nat.le_trans h.size k.size, fun i hi hT => (k.block i (Nat.lt_of_lt_of_le hi h.size) (fun u => hT (hU i hi u))).trans (h.block i hi hT)⟩
theorem touch_drew (T : Nat → Prop) (w : World) : Touch T w w.drew := Touch.of_below (Below.refl _ _).drew
theorem VarAt.drew {w : World} {b : Nat} {cs : List Value} {t : TypeId} (h : VarAt w b cs t) : VarAt w.drew b cs t := h
theorem VarAt.touchset {w : World} {b p j : Nat} {cs : List Value} {t : TypeId} (h : VarAt w b cs t) (v : Value) (hb : b ≠ p) : VarAt (w.setCell ⟨p, j, none⟩ v) b cs t := h.touch (Touch.setCell (T := fun i => i = p) _ _ _ rfl) hb
/-- While the first range goes: what has come together so far. -/
structure JnW (w : World) (gb : Nat) (g : List Nat) (x k : Nat) (X : World) : Prop where
  b0 : VarAt X w.heap.size [.pointer (some ⟨gb, 0, none⟩)] 89
  b1 : VarAt X (w.heap.size + 1) [.int .u64 ((orG g ((bitsL x).take k) : Nat) : Int)] 23
  bg : VarAt X gb (cellsN g) 48
  bel : Below w.heap.size w X
theorem JnW.aside {w : World} {gb : Nat} {g : List Nat} {x k : Nat} {X X' : World} (hb : gb < w.heap.size) (h : JnW w gb g x k X) (ht : Touch (fun b => b = w.heap.size + 3 ∨ b = w.heap.size + 4) X X') : JnW w gb g x k X' :=
  ⟨h.b0.touch ht (by omega), h.b1.touch ht (by omega), h.bg.touch ht (by omega), below_touch h.bel ht (fun i hi => by omega)⟩
/-- While the second one goes: whose group is set so far. -/
structure JmW (w : World) (gb : Nat) (g : List Nat) (all k : Nat) (X : World) : Prop where
  b0 : VarAt X w.heap.size [.pointer (some ⟨gb, 0, none⟩)] 89
  b1 : VarAt X (w.heap.size + 1) [.int .u64 (all : Int)] 23
  bg : VarAt X gb (cellsN (setG g all ((bitsL all).take k))) 48
  bel : Touch (fun b => b = gb) w X
theorem JmW.aside {w : World} {gb : Nat} {g : List Nat} {all k N : Nat} {X X' : World} (hb : gb < w.heap.size) (h : JmW w gb g all k X) (hN : w.heap.size + 1 < N) (ht : Touch (fun b => N ≤ b) X X') : JmW w gb g all k X' :=
  ⟨h.b0.touch ht (by omega), h.b1.touch ht (by omega), h.bg.touch ht (by omega), touch_more h.bel ht (fun i hi => by omega)⟩
theorem set_snoc {g l : List Nat} {v k q : Nat} (h : l[k]? = some q) : setG g v (l.take (k + 1)) = (setG g v (l.take k)).set q v := by
  unfold setG
  rw [List.take_add_one, h]
  simp
theorem or_snoc {g l : List Nat} {k q : Nat} (h : l[k]? = some q) : orG g (l.take (k + 1)) = orG g (l.take k) ||| g.getD q 0 := by
  unfold orG
  rw [List.take_add_one, h]
  simp
theorem or64' {a b : Nat} (ha : a < 18446744073709551616) (hb : b < 18446744073709551616) : bits .or .u64 (a : Int) (b : Int) = ((a ||| b : Nat) : Int) := u64_or_nat a b ha hb

set_option maxRecDepth 100000 in
set_option maxHeartbeats 1000000 in
theorem join_any (x : Nat) (hx : x < 18446744073709551616) (gb : Nat) (g : List Nat) (n : Nat) (L : List Nat) (hg : GI n L g) (w : World) (hv : VarAt w gb (cellsN g) 48) (hTab : Tab w) (hgb : 0 < gb) :
    Calls Tryd.prog 26 #[.pointer (some ⟨gb, 0, none⟩), .int .u64 (x : Int)] w fun e w' => e = .returned (.tuple #[]) ∧ VarAt w' gb (cellsN (joinL g x)) 48 ∧ Touch (fun b => b = gb) w w' := by
  have hb0 := hTab.lt
  have hgl := hv.lt
  have hlen := hg.1
  replace hTab := hid hTab
  replace hv := hid hv
  refine (callsIn_wide (n := 3)).1 ?_
  refine callsIn_of_wp_marks Tryd.func26 rfl trivial ?_ rfl
  simp only [Tryd.ntmps26, List.size_toArray, List.length_cons, List.length_nil, Nat.reduceAdd, Nat.reduceSub, Array.replicate_succ, Array.replicate_zero, List.push_toArray, List.append_toArray, List.nil_append, List.cons_append]
  have K1 := VarAt.new w [.pointer (some ⟨gb, 0, none⟩)] 89
  have K2 := VarAt.new (w.alloc (.cells #[.pointer (some ⟨gb, 0, none⟩)] 89)) [.int .u64 0] 23
  gi_wp2_with (refine ⟨trivial, ?_⟩; gi_at_call 18; refine (callsIn_wide.2 (each_any _ _)).mono ?_; rintro _ w' ⟨rfl, rfl⟩)
  have B2 := below2 w (.cells #[.pointer (some ⟨gb, 0, none⟩)] 89) (.cells #[.int .u64 0] 23)
  have BZ := B2.alloc B2.size (.cells #[.int .u64 (x : Int)] 23)
  have D0 : JnW w gb g x 0 (((w.alloc (.cells #[.pointer (some ⟨gb, 0, none⟩)] 89)).alloc (.cells #[.int .u64 0] 23)).alloc (.cells #[.int .u64 (x : Int)] 23)) := by
    refine ⟨(K1.past _).past _, ?_, hv.out.kept BZ, BZ⟩
    have := K2.past (.cells #[.int .u64 (x : Int)] 23)
    simpa [orG] using this
  have TZ : Tab (((w.alloc (.cells #[.pointer (some ⟨gb, 0, none⟩)] 89)).alloc (.cells #[.int .u64 0] 23)).alloc (.cells #[.int .u64 (x : Int)] 23)) := hTab.out.below BZ hTab.out.lt
  have nc := new_cell ((w.alloc (.cells #[.pointer (some ⟨gb, 0, none⟩)] 89)).alloc (.cells #[.int .u64 0] 23)) #[.int .u64 (x : Int)] 23 0 _ rfl
  simp only [World.size_alloc] at nc
  have hS := fun n' => each1_seq (fun b => b = w.heap.size + 1) (fun q => by omega) x hx (w.heap.size + 1 + 1) _ nc TZ n'
  clear nc
  replace hS := hid hS
  have sZ : (((w.alloc (.cells #[.pointer (some ⟨gb, 0, none⟩)] 89)).alloc (.cells #[.int .u64 0] 23)).alloc (.cells #[.int .u64 (x : Int)] 23)).heap.size = w.heap.size + 3 := by simp
  generalize hZ : ((w.alloc (.cells #[.pointer (some ⟨gb, 0, none⟩)] 89)).alloc (.cells #[.int .u64 0] 23)).alloc (.cells #[.int .u64 (x : Int)] 23) = Z at *
  clear hZ K1 K2 B2 BZ
  replace D0 := hid D0
  replace TZ := hid TZ
  refine wpIn_range3 rfl rfl (gf := 27) (lb := #[.pointer (some ⟨w.heap.size + 1 + 1, 0, none⟩)]) rfl trivial (enters_of Tryd.func27 (by kernel_rfl) rfl) hS.out ⟨fun q => by omega, fun q => by omega⟩ (fun k args W h => by obtain ⟨x, _, rfl⟩ := h; rfl)
    (fun k X => JnW w gb g x k X) (fun c X => False) ?hI (fun _ _ _ _ h _ => h) ?h0 (fun k a' X => ∃ q : Nat, (bitsL x)[k]? = some q ∧ a' = { tmps := (.pointer (some ⟨gb, 0, none⟩) :: .int .u64 (x : Int) :: .pointer (some ⟨w.heap.size, 0, none⟩) :: undef :: .pointer (some ⟨w.heap.size + 1, 0, none⟩) :: .int .i64 (q : Int) :: undef :: .int .u64 (x : Int) :: .func (.func 27) #[] #[.pointer (some ⟨w.heap.size + 1 + 1, 0, none⟩)] :: .int .i64 (q : Int) :: undef :: undef :: undef :: undef :: undef :: undef :: undef :: undef :: undef :: undef :: undef :: undef :: undef :: undef :: undef :: []).toArray, defers := [] }) ?hA ?assign ?body ?done (fun _ _ _ h => h.elim)
  case hI =>
    rintro k X X' hz h ht
    exact h.aside hgl (ht.mono (fun i _ e => by omega))
  case h0 =>
    intro X hb hz
    have h := D0.out
    exact ⟨h.b0.kept hb, h.b1.kept hb, h.bg.kept hb, h.bel.trans (hb.mono h.bel.size)⟩
  case hA => exact fun k a' X X' h _ _ => h
  case assign =>
    rintro lp k args X K ⟨q, hq, rfl⟩ hsz hK
    gi_wp2
    exact hK _ _ (Below.refl _ _) ⟨q, hq, rfl⟩
  case body =>
    rintro lp k a' X hG hk ⟨q, hq, rfl⟩ hsz
    have x0 := hG.b0.cell 0 rfl
    have x1 := hG.b1.cell 0 rfl
    have x2 := hG.b1.frozen 0
    have hq64 := (bits_lt hq).1
    have xg := hG.bg.cell q (cellsN_at (by omega))
    have hs := or_snoc (g := g) hq
    have l1 := hg.lt q
    have l2 := or_lt hg ((bitsL x).take k)
    have ho := or64' (by rw [← p64]; exact l2) (by rw [← p64]; exact l1)
    have hlt' : (q : Int) < 64 := by omega
    generalize orG g ((bitsL x).take k) = ak at *
    generalize g.getD q 0 = gq at *
    replace hs := hid hs
    clear l1 l2 hS D0 hTab TZ hv hg
    replace hG := hid hG
    gi_wp2_with fail
    gi_region
    all_goals
      have s1 : VarAt (X.setCell ⟨w.heap.size + 1, 0, none⟩ (.int .u64 ((ak ||| gq : Nat) : Int))) (w.heap.size + 1) [.int .u64 ((ak ||| gq : Nat) : Int)] 23 := hG.out.b1.set 0 _
      refine ⟨(Touch.setCell (T := fun i => i = w.heap.size + 1) _ _ _ rfl).trans (touch_drew _ _), (hG.out.b0.touchset _ (by omega)).drew, ?_, (hG.out.bg.touchset _ (by omega)).drew, ((hG.out.bel).trans ?_)⟩
      · rw [hs.out]; exact s1.drew
      · exact below_touch ((Below.refl _ _).mono (by have := hG.out.bel.size; omega)) ((Touch.setCell (T := fun i => i = w.heap.size + 1) _ _ _ rfl).trans (touch_drew _ _)) (fun i hi => by omega) (by omega)
  case done =>
    rintro D X h hD hK
    obtain rfl : D = w.heap.size + 3 := by omega
    have x1 := h.b1.cell 0 rfl
    have lall := or_lt hg (bitsL x)
    rw [List.take_length] at x1
    have hall : orG g ((bitsL x).take (bitsL x).length) = orG g (bitsL x) := by rw [List.take_length]
    generalize ha : orG g (bitsL x) = all at *
    have hb1 : VarAt X (w.heap.size + 1) [.int .u64 (all : Int)] 23 := by have := h.b1; rw [hall] at this; exact this
    have hXs : w.heap.size + 3 < X.heap.size := by have := (Array.getElem?_eq_some_iff.1 hK).1; omega
    have E0 : JmW w gb g all 0 X := ⟨h.b0, hb1, by simpa [setG] using h.bg, Touch.of_below h.bel⟩
    have TX : Tab X := hTab.out.kept h.bel
    replace E0 := hid E0
    replace TX := hid TX
    replace hK := hid hK
    have hlast : Hid (joinL g x = setG g all (bitsL all)) := hid (by unfold joinL; rw [ha])
    rw [p64] at lall
    clear hS D0 TZ hv hg h hall hb1 hTab
    gi_wp2_with (refine ⟨trivial, ?_⟩; gi_at_call 18; refine (callsIn_wide.2 (each_any _ _)).mono ?_; rintro _ w' ⟨rfl, rfl⟩)
    all_goals (rename_i heq; cases heq)
    have BZ := (Below.refl X.heap.size X).alloc (Nat.le_refl _) (.cells #[.int .u64 (all : Int)] 23)
    have E1 : JmW w gb g all 0 (X.alloc (.cells #[.int .u64 (all : Int)] 23)) := ⟨E0.out.b0.kept BZ, E0.out.b1.kept BZ, E0.out.bg.kept BZ, touch_more E0.out.bel (Touch.of_below BZ (T := fun _ => False)) (fun _ _ q => q.elim)⟩
    have K1 : (X.alloc (.cells #[.int .u64 (all : Int)] 23)).heap[w.heap.size + 3]? = some (.deferred (some [])) := (BZ.block (w.heap.size + 3) (by omega)).trans hK.out
    have hS := fun n' => each1_seq (fun b => b = gb) (fun q => by omega) all lall X.heap.size _ (new_cell X #[.int .u64 (all : Int)] 23 0 _ rfl) (TX.out.kept BZ) n'
    replace hS := hid hS
    have s2 : (X.alloc (.cells #[.int .u64 (all : Int)] 23)).heap.size = X.heap.size + 1 := by simp
    generalize hY : X.alloc (.cells #[.int .u64 (all : Int)] 23) = Y at *
    clear hY BZ TX E0 hK
    replace E1 := hid E1
    replace K1 := hid K1
    refine wpIn_range3 rfl rfl (gf := 27) (lb := #[.pointer (some ⟨X.heap.size, 0, none⟩)]) rfl trivial (enters_of Tryd.func27 (by kernel_rfl) rfl) hS.out ⟨fun q => by omega, fun q => by omega⟩ (fun k args W h => by obtain ⟨x, _, rfl⟩ := h; rfl)
      (fun k X' => JmW w gb g all k X' ∧ X'.heap[w.heap.size + 3]? = some (.deferred (some []))) (fun c X => False) ?hI (fun _ _ _ _ h _ => h) ?h0 (fun k a' X' => ∃ q : Nat, (bitsL all)[k]? = some q ∧ a' = { tmps := (.pointer (some ⟨gb, 0, none⟩) :: .int .u64 (x : Int) :: .pointer (some ⟨w.heap.size, 0, none⟩) :: undef :: .pointer (some ⟨w.heap.size + 1, 0, none⟩) :: undef :: .int .i64 (q : Int) :: .int .u64 (x : Int) :: .func (.func 27) #[] #[.pointer (some ⟨w.heap.size + 1 + 1, 0, none⟩)] :: undef :: undef :: undef :: undef :: undef :: undef :: undef :: undef :: .int .u64 (all : Int) :: .func (.func 27) #[] #[.pointer (some ⟨X.heap.size, 0, none⟩)] :: .int .i64 (q : Int) :: undef :: undef :: undef :: undef :: undef :: []).toArray, defers := [] }) ?hA ?assign ?body ?done (fun _ _ _ h => h.elim)
    case hI =>
      rintro k X1 X2 hz ⟨h, h2⟩ ht
      exact ⟨h.aside (N := X.heap.size + 1) hgl (by omega) (ht.mono (fun i _ e => by omega)), (ht.block (w.heap.size + 3) (by omega) (by omega)).trans h2⟩
    case h0 =>
      intro X1 hb hz
      have h := E1.out
      exact ⟨⟨h.b0.kept hb, h.b1.kept hb, h.bg.kept hb, h.bel.trans (Touch.of_below hb)⟩, (hb.block (w.heap.size + 3) (by omega)).trans K1.out⟩
    case hA => exact fun k a' X X' h _ _ => h
    case assign =>
      rintro lp k args X1 K ⟨q, hq, rfl⟩ hsz hK
      gi_wp2
      exact hK _ _ (Below.refl _ _) ⟨q, hq, rfl⟩
    case body =>
      rintro lp k a' X1 ⟨hG, hD1⟩ hk ⟨q, hq, rfl⟩ hsz
      have x0 := hG.b0.cell 0 rfl
      have x1 := hG.b1.cell 0 rfl
      have x2 := hG.bg.frozen q
      have hq64 := (bits_lt hq).1
      have hsl : (setG g all ((bitsL all).take k)).length = 64 := by rw [setG_len, hlen]
      have xg := hG.bg.cell q (cellsN_at (by omega))
      have hs := set_snoc (g := g) (v := all) hq
      have hlt' : (q : Int) < 64 := by omega
      generalize hst : setG g all ((bitsL all).take k) = gk at *
      generalize hqq : gk.getD q 0 = gq at *
      replace hst := hid hst
      replace hqq := hid hqq
      replace hs := hid hs
      clear hS E1 K1
      replace hG := hid hG
      replace hD1 := hid hD1
      gi_wp2_with fail
      gi_region
      all_goals
        have hG1 := hG.out.bg
        rw [hst.out] at hG1
        have s1 : VarAt (X1.setCell ⟨gb, q, none⟩ (.int .u64 (all : Int))) gb ((cellsN gk).set q (.int .u64 (all : Int))) 48 := hG1.set q _
        rw [cellsN_set] at s1
        have tt : Touch (fun i => i = gb) X1 (X1.setCell ⟨gb, q, none⟩ (.int .u64 (all : Int))).drew := (Touch.setCell (T := fun i => i = gb) _ _ _ rfl).trans (touch_drew _ _)
        refine ⟨tt, ⟨(hG.out.b0.touchset _ (by omega)).drew, (hG.out.b1.touchset _ (by omega)).drew, ?_, hG.out.bel.trans tt⟩, (tt.block (w.heap.size + 3) (by have := (Array.getElem?_eq_some_iff.1 hD1.out).1; exact this) (by omega)).trans hD1.out⟩
        rw [hs.out]
        exact s1.drew
    case done =>
      rintro D2 X1 ⟨h, hD1⟩ hD2 hK2
      have hd2 := (Array.getElem?_eq_some_iff.1 hD1).1
      replace h := hid h
      replace hK2 := hid hK2
      replace hD1 := hid hD1
      clear hS E1 K1
      gi_wp2_with fail
      refine ⟨by simp, .inl ⟨_, _, rfl, run_takeDeferred hK2.out, ⟨by simp, .inl ⟨_, _, rfl, run_takeDeferred ((World.putObj_heap_other (by omega)).trans hD1.out), ?_⟩⟩⟩⟩
      refine ⟨_, results_none rfl _ _ _, rfl, ?_⟩
      have h1 := h.out
      have hv1 := h1.bg
      rw [List.take_length, ← hlast.out] at hv1
      have p1 : Touch (fun b => X.heap.size + 1 ≤ b) X1 (X1.putObj D2 (.deferred none)) := Touch.putObj _ _ _ (by omega)
      have p2 : Touch (fun b => b = w.heap.size + 3) (X1.putObj D2 (.deferred none)) ((X1.putObj D2 (.deferred none)).putObj (w.heap.size + 3) (.deferred none)) := Touch.putObj _ _ _ rfl
      have p3 := touch_more (h1.bel) p1 (fun i hi e => by omega)
      exact ⟨(hv1.touch p1 (by omega)).touch p2 (by omega), touch_more p3 p2 (fun i hi e => by omega)⟩
end Go.Proofs.YtdpbapoahfggeaaDoor
