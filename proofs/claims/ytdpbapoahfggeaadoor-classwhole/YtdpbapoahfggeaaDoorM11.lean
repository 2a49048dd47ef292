/- Jb, RinC -/
import Derived.Test.YtdpbapoahfggeaaDoorM09
import Derived.Test.YtdpbapoahfggeaaDoorM10
/- The contract of joinedBy: the groups of all sets. -/
namespace Go.Proofs.YtdpbapoahfggeaaDoor
open Go.ChangeShapes Go.WideShapes Go.ChangeAt Go.RowKit
set_option linter.unusedVariables false
set_option linter.unusedSimpArgs false

/-- A row of rows of sets, that is read. -/
def RowsR (w : World) (v : Value) (L : List (List Nat)) : Prop :=
  ∃ us : List Value, ValsR w v us ∧ us.length = L.length ∧ ∀ (i : Nat) (u : Value) (l : List Nat), us[i]? = some u → L[i]? = some l → NumR w u l
theorem RowsR.kept {w w' : World} {v : Value} {L : List (List Nat)} (h : RowsR w v L) (k : Below w.heap.size w w') : RowsR w' v L := by
  obtain ⟨us, h1, h2, h3⟩ := h
  exact ⟨us, h1.kept k, h2, fun i u l hu hl => (h3 i u l hu hl).kept k⟩
theorem RowsR.open {w : World} {v : Value} {L : List (List Nat)} (h : RowsR w v L) : ∃ a c, v = .slice a L.length c ∧ L.length ≤ 9223372036854775807 ∧ ∀ i, i < L.length → ∃ b off u, a = some ⟨b, off, none⟩ ∧ b < w.heap.size ∧ w.cell? ⟨b, off + i, none⟩ = some u ∧ NumR w u (L.getD i []) := by
  obtain ⟨us, ⟨a, c, e, n, h1⟩, h2, h3⟩ := h
  refine ⟨a, c, by rw [e, h2], by omega, fun i hi => ?_⟩
  have hu : us[i]? = some (us[i]'(by omega)) := by simp [h2, hi]
  obtain ⟨b, off, e1, e2, e3⟩ := h1 i _ hu
  exact ⟨b, off, _, e1, e2, e3, h3 i _ _ hu (by simp [List.getD, hi])⟩
/-- All sets are numbers of 64 bits. -/
def Sm64 (L : List (List Nat)) : Prop := ∀ l ∈ L, ∀ x ∈ l, x < 18446744073709551616

theorem sm_at {L : List (List Nat)} (h : Sm64 L) {j k : Nat} (hj : j < L.length) (hk : k < (L.getD j []).length) : (L.getD j []).getD k 0 < 18446744073709551616 := by
  have e : L.getD j [] = L[j] := by simp [List.getD, hj]
  rw [e] at hk ⊢
  have e2 : L[j].getD k 0 = L[j][k] := by simp [List.getD, hk]
  rw [e2]
  exact h _ (List.getElem_mem hj) _ (List.getElem_mem hk)
theorem splice_pre : ∀ (ds pre old : List Value), old.length = ds.length → splice (pre ++ old) pre.length ds = pre ++ ds
  | [], pre, old, h => by
    have : old = [] := by simpa using h
    subst this
    simp [splice]
  | d :: ds, pre, old, h => by
    cases old with
    | nil => simp at h
    | cons o old =>
      unfold splice
      have e : (pre ++ o :: old).set pre.length d = (pre ++ [d]) ++ old := by simp
      rw [e, show pre.length + 1 = (pre ++ [d]).length by simp, splice_pre ds (pre ++ [d]) old (by simpa using h)]
      simp
theorem splice_all {ds old : List Value} (h : old.length = ds.length) : splice old 0 ds = ds := by
  have := splice_pre ds [] old h
  simpa using this
theorem wl_store_all {ops : Array Oper} {rest : List Oper} {op : Oper} {a : Act} {w : World} {Q : Exit → Act → World → Prop} (ty : TypeId) (x y : Operand) (ho : op.op = .store ty x y) (hw : Region.wanted op (yielded ops a.tmps) = true)
    (b : Nat) (hx : a.eval x = .pointer (some ⟨b, 0, none⟩)) (cs : List Value) (hy : a.eval y = .agg cs.toArray) (hi : (Tryd.prog.info? ty).map (·.size) = some cs.length) (h1 : ∀ v ∈ cs, v.oneCell' = true)
    (old : List Value) (t : TypeId) (hv : VarAt w b old t) (hl : old.length = cs.length) (h : ∀ w', VarAt w' b cs t → Turned b w w' → wpList Tryd.prog ops Q rest (a.put op.dst undef) w') : wpList Tryd.prog ops Q (op :: rest) a w :=
  wpList_step fun K hK => step_store ty x y ho hw b hx cs hy hi h1 old t hv hl (splice_all hl) fun w' h2 h3 => hK _ _ (h w' h2 h3)
theorem cellsN_one (l : List Nat) : ∀ v ∈ cellsN l, v.oneCell' = true := by
  intro v hv
  obtain ⟨n, -, rfl⟩ := List.mem_map.1 hv
  rfl
/-! ### What was gone over -/
def pre2 (A : List Nat) (L : List (List Nat)) (j : Nat) : List Nat := A ++ (L.take j).flatten
def pre1 (A : List Nat) (l : List Nat) (k : Nat) : List Nat := A ++ l.take k
theorem pre1_snoc {A l : List Nat} {k x : Nat} (h : l[k]? = some x) : pre1 A l (k + 1) = pre1 A l k ++ [x] := by
  unfold pre1
  rw [List.take_add_one, h]
  simp
theorem pre1_all (A l : List Nat) : pre1 A l l.length = A ++ l := by unfold pre1; rw [List.take_length]
theorem pre1_zero (A l : List Nat) : pre1 A l 0 = A := by simp [pre1]
theorem pre2_snoc {A : List Nat} {L : List (List Nat)} {j : Nat} (h : j < L.length) : pre2 A L (j + 1) = pre2 A L j ++ L.getD j [] := by
  unfold pre2
  rw [List.take_add_one, List.getElem?_eq_getElem h, List.flatten_append]
  simp [List.getD, h]
theorem pre2_all (A : List Nat) (L : List (List Nat)) : pre2 A L L.length = A ++ L.flatten := by unfold pre2; rw [List.take_length]
theorem pre2_zero (A : List Nat) (L : List (List Nat)) : pre2 A L 0 = A := by simp [pre2]

def onesK (k : Nat) : List Nat := (List.range 64).map (fun i => if i < k then 2 ^ i else 0)
theorem onesK_all : onesK 64 = ones0 := by
  unfold onesK ones0
  apply List.map_congr_left
  intro i hi
  rw [List.mem_range] at hi
  rw [if_pos hi]
theorem onesK_set {k : Nat} (h : k < 64) : (onesK k).set k (2 ^ k) = onesK (k + 1) := by
  apply List.ext_getElem
  · simp [onesK]
  · intro i h1 h2
    simp only [onesK, List.getElem_set, List.getElem_map, List.getElem_range]
    by_cases e : k = i
    · subst e; simp
    · rw [if_neg e]
      by_cases q : i < k
      · rw [if_pos q, if_pos (by omega)]
      · rw [if_neg q, if_neg (by omega)]
theorem onesK_len (k : Nat) : (onesK k).length = 64 := by simp [onesK]
theorem shl64 {n : Nat} (h : n < 64) : IntKind.u64.wrap ((2 : Int) ^ n) = ((2 ^ n : Nat) : Int) := by
  have : (2 : Nat) ^ n < 2 ^ 64 := Nat.pow_lt_pow_of_lt (by omega) h
  have e : ((2 : Int) ^ n) = ((2 ^ n : Nat) : Int) := by simp
  rw [e, IntKind.wrap_u64]
  generalize (2 : Nat) ^ n = y at *
  omega

theorem known64 {n : Nat} (h : n ≤ 64) : ∃ kn : Nat, IntKind.u64.wrap (IntKind.u64.wrap ((2 : Int) ^ n) - 1) = (kn : Int) ∧ kn < 18446744073709551616 ∧ ∀ j, kn.testBit j = decide (j < n) := by
  refine ⟨2 ^ n - 1, ?_, ?_, fun j => Nat.testBit_two_pow_sub_one ..⟩
  · by_cases e : n = 64
    · subst e; rfl
    · rw [shl64 (by omega), IntKind.wrap_u64]
      have : (2 : Nat) ^ n < 2 ^ 64 := Nat.pow_lt_pow_of_lt (by omega) (by omega)
      have h0 : 0 < (2 : Nat) ^ n := Nat.two_pow_pos n
      generalize (2 : Nat) ^ n = y at *
      omega
  · have : (2 : Nat) ^ n ≤ 2 ^ 64 := Nat.pow_le_pow_right (by omega) h
    omega

/-! ### Rows that lie still in all worlds of a kind -/
def Rd1 (G : World → Prop) (v : Value) (l : List Nat) : Prop :=
  ∃ a c, v = .slice a l.length c ∧ l.length ≤ 9223372036854775807 ∧ ∀ X, G X → ∀ k, k < l.length → ∃ b off, a = some ⟨b, off, none⟩ ∧ X.cell? ⟨b, off + k, none⟩ = some (.int .u64 ((l.getD k 0 : Nat) : Int))
def Rd2 (G : World → Prop) (v : Value) (L : List (List Nat)) : Prop :=
  ∃ a c, v = .slice a L.length c ∧ L.length ≤ 9223372036854775807 ∧ ∀ X, G X → ∀ k, k < L.length → ∃ b off u, a = some ⟨b, off, none⟩ ∧ X.cell? ⟨b, off + k, none⟩ = some u ∧ Rd1 G u (L.getD k [])
theorem NumR.rd {w : World} {v : Value} {l : List Nat} (h : NumR w v l) {G : World → Prop} (hG : ∀ X, G X → Below w.heap.size w X) : Rd1 G v l := by
  obtain ⟨a, c, e, n, h⟩ := h.open
  refine ⟨a, c, e, n, fun X hX k hk => ?_⟩
  obtain ⟨b, off, h1, h2, h3⟩ := h k hk
  exact ⟨b, off, h1, by rw [(hG X hX).cell h2]; exact h3⟩
theorem RowsR.rd {w : World} {v : Value} {L : List (List Nat)} (h : RowsR w v L) {G : World → Prop} (hG : ∀ X, G X → Below w.heap.size w X) : Rd2 G v L := by
  obtain ⟨a, c, e, n, h⟩ := h.open
  refine ⟨a, c, e, n, fun X hX k hk => ?_⟩
  obtain ⟨b, off, u, h1, h2, h3, h4⟩ := h k hk
  exact ⟨b, off, u, h1, by rw [(hG X hX).cell h2]; exact h3, h4.rd hG⟩

structure JbW (w : World) (v0 v1 v2 : Value) (g : List Nat) (X : World) : Prop where
  b1 : VarAt X (w.heap.size + 1) (cellsN (onesK 0)) 48
  bg : VarAt X (w.heap.size + 2) (cellsN g) 48
  b3 : VarAt X (w.heap.size + 3) [v1] 27
  b4 : VarAt X (w.heap.size + 4) [v0, .slice (some ⟨w.heap.size + 3, 0, none⟩) 1 1, v2] 22
  bel : Below w.heap.size w X
theorem JbW.join {w : World} {v0 v1 v2 : Value} {g g' : List Nat} {X X' : World} (h : JbW w v0 v1 v2 g X) (t : Touch (fun b => b = w.heap.size + 2) X X') (hv : VarAt X' (w.heap.size + 2) (cellsN g') 48) : JbW w v0 v1 v2 g' X' :=
  ⟨h.b1.touch t (by omega), hv, h.b3.touch t (by omega), h.b4.touch t (by omega), below_touch h.bel t (fun i hi => by omega)⟩
set_option maxRecDepth 100000 in
set_option maxHeartbeats 1000000 in
theorem joined_any (n : Nat) (hn : n ≤ 64) (v0 v1 v2 : Value) (S : List (List Nat)) (l1 : List Nat) (F : List (List Nat)) (w : World) (h0 : RowsR w v0 S) (h1 : NumR w v1 l1) (h2 : RowsR w v2 F)
    (sS : Sm64 S) (s1 : Sm64 [l1]) (sF : Sm64 F) (hTab : Tab w) :
    Calls Tryd.prog 17 #[.int .i64 (n : Int), .agg #[v0, v1, v2]] w fun e w' => ∃ g, e = .returned (.agg (cellsN g).toArray) ∧ GI n (S.flatten ++ l1 ++ F.flatten) g ∧ Below w.heap.size w w' := by
  have hb0 := hTab.lt
  obtain ⟨kn, ekn, hkn, hkb⟩ := known64 hn
  have V5 := hid (VarAt.new ((w.alloc (.cells #[v0, v1, v2] 29)).alloc (.cells (cellsN (onesK 0)).toArray 48)) (cellsN (onesK 0)) 48)
  have V4 := hid ((VarAt.new (w.alloc (.cells #[v0, v1, v2] 29)) (cellsN (onesK 0)) 48).past (.cells (cellsN (onesK 0)).toArray 48))
  have V3 := hid (((VarAt.new w [v0, v1, v2] 29).past (.cells (cellsN (onesK 0)).toArray 48)).past (.cells (cellsN (onesK 0)).toArray 48))
  have BX := hid (below3 w (.cells #[v0, v1, v2] 29) (.cells (cellsN (onesK 0)).toArray 48) (.cells (cellsN (onesK 0)).toArray 48))
  have R0 := hid (h0.rd (G := fun X => ∃ g, JbW w v0 v1 v2 g X) (fun X h => by obtain ⟨g, h⟩ := h; exact h.bel))
  have R2 := hid (h2.rd (G := fun X => ∃ g, JbW w v0 v1 v2 g X) (fun X h => by obtain ⟨g, h⟩ := h; exact h.bel))
  have R1 := hid (h1.rd (G := fun X => ∃ g, JbW w v0 v1 v2 g X) (fun X h => by obtain ⟨g, h⟩ := h; exact h.bel))
  obtain ⟨a0, c0, rfl, -⟩ := R0.out
  obtain ⟨a1, c1, rfl, -⟩ := R1.out
  obtain ⟨a2, c2, rfl, -⟩ := R2.out
  have RG : Rd2 (fun X => ∃ g, JbW w (.slice a0 S.length c0) (.slice a1 l1.length c1) (.slice a2 F.length c2) g X) (.slice (some ⟨w.heap.size + 3, 0, none⟩) 1 1) [l1] := ⟨_, _, rfl, by simp, fun X hX k hk => by
    obtain ⟨g, hX⟩ := hX
    obtain rfl : k = 0 := by simpa using hk
    exact ⟨_, _, _, rfl, hX.b3.cell 0 rfl, R1.out⟩⟩
  have RA : Hid (∀ i, i < 3 → ∃ v, ∀ X, (∃ g, JbW w (.slice a0 S.length c0) (.slice a1 l1.length c1) (.slice a2 F.length c2) g X) → X.cell? ⟨w.heap.size + 4, i, none⟩ = some v ∧ Rd2 (fun X => ∃ g, JbW w (.slice a0 S.length c0) (.slice a1 l1.length c1) (.slice a2 F.length c2) g X) v (([S, [l1], F] : List (List (List Nat))).getD i [])) := hid (by
    intro i hi
    match i, hi with
    | 0, _ => exact ⟨_, fun X hX => by obtain ⟨g, hX'⟩ := hX; exact ⟨hX'.b4.cell 0 rfl, R0.out⟩⟩
    | 1, _ => exact ⟨_, fun X hX => by obtain ⟨g, hX'⟩ := hX; exact ⟨hX'.b4.cell 1 rfl, RG⟩⟩
    | 2, _ => exact ⟨_, fun X hX => by obtain ⟨g, hX'⟩ := hX; exact ⟨hX'.b4.cell 2 rfl, R2.out⟩⟩)
  have SM : Hid (∀ i, i < 3 → Sm64 (([S, [l1], F] : List (List (List Nat))).getD i [])) := hid (by
    intro i hi
    match i, hi with
    | 0, _ => exact sS
    | 1, _ => exact s1
    | 2, _ => exact sF)
  have hend : Hid (pre2 [] (([S, [l1], F] : List (List (List Nat))).map List.flatten) 3 = S.flatten ++ l1 ++ F.flatten) := hid (by simp [pre2])
  have hsnoc : Hid (∀ i, i < 3 → pre2 [] (([S, [l1], F] : List (List (List Nat))).map List.flatten) (i + 1) = pre2 [] (([S, [l1], F] : List (List (List Nat))).map List.flatten) i ++ (([S, [l1], F] : List (List (List Nat))).getD i []).flatten) := hid (fun i hi => by
    rw [pre2_snoc (by simpa using hi)]
    congr 1
    match i, hi with
    | 0, _ => rfl
    | 1, _ => rfl
    | 2, _ => rfl)
  generalize ([S, [l1], F] : List (List (List Nat))) = TT at *
  replace hTab := hid hTab
  clear h0 h1 h2 RG R0 R1 R2 sS s1 sF
  go_enter Tryd.func17, Tryd.ntmps17
  go_wp2
  show Code.wp _ _ _ _ (((w.alloc (.cells #[.slice a0 S.length c0, .slice a1 l1.length c1, .slice a2 F.length c2] 29)).alloc (.cells (cellsN (onesK 0)).toArray 48)).alloc (.cells (cellsN (onesK 0)).toArray 48))
  have sX : (((w.alloc (.cells #[.slice a0 S.length c0, .slice a1 l1.length c1, .slice a2 F.length c2] 29)).alloc (.cells (cellsN (onesK 0)).toArray 48)).alloc (.cells (cellsN (onesK 0)).toArray 48)).heap.size = w.heap.size + 3 := by simp
  generalize ((w.alloc (.cells #[.slice a0 S.length c0, .slice a1 l1.length c1, .slice a2 F.length c2] 29)).alloc (.cells (cellsN (onesK 0)).toArray 48)).alloc (.cells (cellsN (onesK 0)).toArray 48) = X at *
  go_loopw [6, 14] (fun t6 t14 wr => ∃ k : Nat, t14 = .int .i64 (k : Int) ∧ k ≤ 64 ∧ Hid (VarAt wr (w.heap.size + 2) (cellsN (onesK k)) 48 ∧ Touch (fun b => b = w.heap.size + 2) X wr ∧ wr.heap.size = w.heap.size + 3)) (fun _ t _ => 64 - (intOf t).toNat)
  case atStart => exact ⟨0, rfl, by omega, hid ⟨by have := V5.out; simpa using this, Touch.refl _ _, sX⟩⟩
  case round =>
    obtain ⟨k, rfl, hk, hV⟩ := hrel
    by_cases hlt : k < 64
    · have x2 := hV.out.1.frozen k
      have xg := hV.out.1.cell k (cellsN_at (by rw [onesK_len]; exact hlt))
      have e1 := shl64 hlt
      have hltI : (k : Int) < 64 := by omega
      clear V3 V4 V5 BX RA SM hend hsnoc ekn hkn hkb hTab
      generalize (onesK k).getD k 0 = y at *
      go_wp2_with fail
      go_roundw
      case rel =>
        refine ⟨k + 1, by go_num, by omega, hid ⟨?_, hV.out.2.1.trans (Touch.setCell _ _ _ rfl), by rw [← hV.out.2.2]; simp [World.setCell]⟩⟩
        have := hV.out.1.set k (.int .u64 ((2 ^ k : Nat) : Int))
        rw [cellsN_set, onesK_set hlt] at this
        exact this
      case measure => simp [intOf]; omega
    · have e : k = 64 := by omega
      subst e
      have ht := hV.out.2.1
      have sw := hV.out.2.2
      have W3 := V3.out.touch ht (by omega)
      have W4 := VarAt.touch (b := w.heap.size + 1) (by have := V4.out; simpa using this) ht (by omega)
      have W5 := hV.out.1
      rw [onesK_all] at W5
      have WB := below_touch BX.out ht (fun i hi => by omega)
      have y0 := W3.cell 0 rfl
      have y1 := W3.cell 1 rfl
      have y2 := W3.cell 2 rfl
      replace hkn := hid hkn
      replace hkb := hid hkb
      clear V3 V4 V5 BX hV ht
      replace W3 := hid W3
      replace W4 := hid W4
      replace W5 := hid W5
      replace WB := hid WB
      go_wp2_with fail
      have U3 : VarAt (wr.alloc (.cells #[.slice a1 l1.length c1] 27)) (w.heap.size + 3) [.slice a1 l1.length c1] 27 := by have := VarAt.new wr [.slice a1 l1.length c1] 27; rw [sw] at this; exact this
      have U4 := VarAt.new (wr.alloc (.cells #[.slice a1 l1.length c1] 27)) [.slice a0 S.length c0, .slice (some ⟨w.heap.size + 3, 0, none⟩) 1 1, .slice a2 F.length c2] 22
      have B2 := below2 wr (.cells #[.slice a1 l1.length c1] 27) (.cells #[.slice a0 S.length c0, .slice (some ⟨w.heap.size + 3, 0, none⟩) 1 1, .slice a2 F.length c2] 22)
      have J0 : JbW w (.slice a0 S.length c0) (.slice a1 l1.length c1) (.slice a2 F.length c2) ones0 ((wr.alloc (.cells #[.slice a1 l1.length c1] 27)).alloc (.cells #[.slice a0 S.length c0, .slice (some ⟨w.heap.size + 3, 0, none⟩) 1 1, .slice a2 F.length c2] 22)) :=
        ⟨W4.out.kept B2, W5.out.kept B2, U3.past _, by simpa [sw] using U4, WB.out.trans (B2.mono (by omega))⟩
      simp only [World.size_alloc] at *
      try rw [sw]
      generalize (wr.alloc (.cells #[.slice a1 l1.length c1] 27)).alloc (.cells #[.slice a0 S.length c0, .slice (some ⟨w.heap.size + 3, 0, none⟩) 1 1, .slice a2 F.length c2] 22) = Y at *
      clear W3 W4 W5 WB U3 U4 B2 y0 y1 y2
      replace J0 := hid J0
      go_loopw [34] (fun t34 wr => ∃ i g, t34 = .int .i64 (i : Nat) ∧ i ≤ 3 ∧ Hid (JbW w (.slice a0 S.length c0) (.slice a1 l1.length c1) (.slice a2 F.length c2) g wr) ∧ Hid (GI n (pre2 [] (TT.map List.flatten) i) g)) (fun t _ => 3 - (intOf t).toNat)
      case atStart => exact ⟨0, ones0, rfl, by omega, J0, hid (gi_start n)⟩
      case round =>
        clear J0
        obtain ⟨i, g, rfl, hi, J, G⟩ := hrel
        by_cases hi3 : i < 3
        · obtain ⟨v, hv⟩ := RA.out i hi3
          have cv := (hv _ ⟨g, J.out⟩).1
          obtain ⟨va, vc, rfl, hLn, hrow⟩ := (hv _ ⟨g, J.out⟩).2
          have sm := hid (SM.out i hi3)
          have hsn := hid (hsnoc.out i hi3)
          replace hrow := hid hrow
          have hi3' : (i : Int) < 3 := by omega
          generalize TT.getD i [] = L at *
          generalize hA : pre2 [] (TT.map List.flatten) i = A at *
          replace hA := hid hA
          clear hv RA SM hend hsnoc
          go_wp2_with fail
          clear cv
          go_loopw [40] (fun t40 wr => ∃ j g, t40 = .int .i64 (j : Nat) ∧ j ≤ L.length ∧ Hid (JbW w (.slice a0 S.length c0) (.slice a1 l1.length c1) (.slice a2 F.length c2) g wr) ∧ Hid (GI n (pre2 A L j) g)) (fun t _ => L.length - (intOf t).toNat)
          case atStart => exact ⟨0, g, rfl, by omega, J, hid (by rw [pre2_zero]; exact G.out)⟩
          case round =>
            clear J G g
            obtain ⟨j, g, rfl, hj, J, G⟩ := hrel
            by_cases hjl : j < L.length
            · obtain ⟨b, off, v, rfl, cv, hv⟩ := hrow.out _ ⟨g, J.out⟩ j hjl
              obtain ⟨ua, uc, rfl, hln, hu⟩ := hv
              have sm1 := hid (fun k hk => sm_at sm.out hjl (k := k) hk)
              have hsn2 := hid (pre2_snoc (A := A) hjl)
              replace hu := hid hu
              have hjl' : (j : Int) < (L.length : Int) := by omega
              have hzz := hid hjl
              generalize L.getD j [] = l at *
              generalize hA2 : pre2 A L j = A2 at *
              replace hA2 := hid hA2
              clear hrow sm hA hsn
              go_wp2_with fail
              clear cv
              go_loopw [46] (fun t46 wr => ∃ k g, t46 = .int .i64 (k : Nat) ∧ k ≤ l.length ∧ Hid (JbW w (.slice a0 S.length c0) (.slice a1 l1.length c1) (.slice a2 F.length c2) g wr) ∧ Hid (GI n (pre1 A2 l k) g)) (fun t _ => l.length - (intOf t).toNat)
              case atStart => exact ⟨0, g, rfl, by omega, J, hid (by rw [pre1_zero]; exact G.out)⟩
              case round =>
                clear J G g
                obtain ⟨k, g, rfl, hk, J, G⟩ := hrel
                by_cases hkl : k < l.length
                · obtain ⟨b', off', rfl, cx⟩ := hu.out _ ⟨g, J.out⟩ k hkl
                  have hx := sm1.out k hkl
                  have hsn1 : l[k]? = some (l.getD k 0) := by simp [List.getD, hkl]
                  generalize l.getD k 0 = x at *
                  have ea := u64_and_nat x kn hx hkn.out
                  have G2 := hid (join_inv G.out (x := x) (y := x &&& kn) (by rw [p64]; exact hx) (fun j => by rw [Nat.testBit_and, hkb.out, Bool.and_comm]))
                  rw [← pre1_snoc hsn1] at G2
                  have hy : x &&& kn < 18446744073709551616 := Nat.lt_of_le_of_lt Nat.and_le_left hx
                  have C := hid (join_any (x &&& kn) hy (w.heap.size + 2) g n _ G.out wr J.out.bg (hTab.out.kept J.out.bel) (by omega))
                  have hkl' : (k : Int) < (l.length : Int) := by omega
                  have hkl2 := hid hkl
                  generalize x &&& kn = y at *
                  replace hsn1 := hid hsn1
                  clear hu sm1 hTab hkb hA2 hsn2 hx hy ekn hkn
                  go_wp2_with (go_at_call 26; refine Calls.mono C.out ?_; rintro _ w' ⟨rfl, hv, ht⟩; have J2 := hid (J.out.join ht hv); clear hv ht C)
                  go_roundw
                  case rel => exact ⟨k + 1, joinL g y, by go_num, by have := hkl2.out; omega, J2, G2⟩
                  case measure => have := hkl2.out; simp [intOf]; omega
                · have e : k = l.length := by omega
                  subst e
                  have G2 : Hid (GI n (pre2 A L (j + 1)) g) := hid (by have := G.out; rw [pre1_all] at this; rw [hsn2.out]; exact this)
                  clear hu sm1 hkb hA2 hsn2 ekn hkn
                  go_wp2_with fail
                  go_roundw
                  case rel => exact ⟨j + 1, g, by go_num, by have := hzz.out; omega, J, G2⟩
                  case measure => have := hzz.out; simp [intOf]; omega
            · have e : j = L.length := by omega
              subst e
              have G2 : Hid (GI n (pre2 [] (TT.map List.flatten) (i + 1)) g) := hid (by have := G.out; rw [pre2_all] at this; rw [hsn.out]; exact this)
              clear hrow sm hA hsn
              go_wp2_with fail
              go_roundw
              case rel => exact ⟨_, _, _, _, _, _, _, _, _, _, _, _, _, _, _, _, _, _, _, _, _, _, _, _, _, _, ⟨i + 1, g, by go_num, by omega, J, G2⟩, rfl⟩
              case measure =>
                show 3 - (intOf (.int .i64 ((i : Int) + 1))).toNat < 3 - (intOf (.int .i64 (i : Int))).toNat
                simp [intOf]; omega
        · have e : i = 3 := by omega
          subst e
          rw [hend.out] at G
          have hlen := G.out.1
          have gw := J.out.bg
          have g1 := J.out.b1
          have hsz : (Tryd.prog.info? 48).map (·.size) = some (cellsN g).toArray.size := by
            rw [show (cellsN g).toArray.size = 64 by simp [cellsN_len, hlen]]
            kernel_rfl
          have hsz2 : (Tryd.prog.info? 48).map (·.size) = some (cellsN g).length := by simpa using hsz
          have hll : (cellsN (onesK 0)).length = (cellsN g).length := by rw [cellsN_len, cellsN_len, onesK_len, hlen]
          have B := hid J.out.bel
          have hg := hid G.out
          clear RA SM hend hsnoc J G
          go_wp2_with (first | (refine wpList_load_row rfl 48 _ rfl (w.heap.size + 1 + 1) rfl 48 (cellsN g).toArray (0, 0) _ gw Tryd.underlying48 rfl hsz ?_) | (refine wl_store_all 48 _ _ rfl rfl (w.heap.size + 1) rfl (cellsN g) rfl hsz2 (cellsN_one g) _ _ g1 hll ?_; intro w6 hv ht))
          refine bodyPost_ret (results_cell_row rfl _ _ (w.heap.size + 1) _ _ _ _ rfl hv Tryd.underlying48 rfl hsz) rfl ?_
          exact ⟨g, rfl, hg.out, ht.below B.out (by omega)⟩
end Go.Proofs.YtdpbapoahfggeaaDoor
/- The document's instr: the field of a load, or a store (region 29), put into a box of its own. -/
namespace Go.Proofs.YtdpbapoahfggeaaDoor
open Go.ChangeShapes Go.WideShapes Go.ChangeAt Go.RowKit
set_option linter.unusedVariables false
set_option linter.unusedSimpArgs false

theorem Z42 : (Tryd.prog.info? 60).map (·.size) = some 3 := by kernel_rfl
theorem one42 (a b : Int) (c : Bool) : ∀ v ∈ [Value.int .i64 a, .int .i64 b, .bool c], v.oneCell' = true := by
  intro v hv
  simp at hv
  rcases hv with rfl | rfl | rfl <;> rfl

theorem ex_eqSite {ρ : Operand → Value} {o : Oper} {w : World} {x y : Operand} {a1 a2 a3 b1 b2 b3 : Int} (ho : o.op = .binOp .eql 66 x y 66) (hx : ρ x = .agg #[.int .i64 a1, .int .i64 a2, .int .i64 a3]) (hy : ρ y = .agg #[.int .i64 b1, .int .i64 b2, .int .i64 b3]) :
    (execOp ρ o).run Tryd.prog w = .ok (.value (.bool ((a1 == b1) && ((a2 == b2) && (a3 == b3))))) w := by
  unfold execOp; rw [ho]; simp only [hx, hy]
  cases h1 : (a1 == b1) <;> cases h2 : (a2 == b2) <;> cases h3 : (a3 == b3) <;> go_simp

set_option maxRecDepth 100000 in
set_option maxHeartbeats 4000000 in
theorem region29_any {Q : Exit → Act → World → Prop} {bc bx br bn orr on nr cr nf cf kr kn : Nat} {v0 v1 : Int} {v2 : Bool} {s0 s1 s2 s4 s5 s6 s7 s9 s10 s11 s12 s13 s14 s15 s16 s17 s18 s19 s20 s21 s22 s23 s24 s25 s26 s27 s28 s29 s30 s31 s32 s33 s34 s35 s36 s37 s38 s39 s40 s41 s42 s43 s44 s45 s46 s47 s48 s49 s50 s51 s52 s53 s54 s55 s56 s57 s58 s59 s60 s61 s62 s63 s64 s65 s66 s67 s68 s69 s70 s71 s72 s73 s74 s75 s76 s77 s78 s79 s80 s81 s82 s83 s84 s85 s86 s87 s88 s89 s90 s91 s92 s93 s94 s95 s96 s97 s98 s99 s100 s101 s102 s103 s104 s105 s106 s107 s108 s109 s110 s111 s112 s113 s114 s115 s116 s117 s118 s119 s120 s121 s122 s123 s124 s125 s126 s127 s128 s129 s130 s131 s132 s133 s134 s135 s136 s137 s138 s139 s140 s141 s142 s143 s144 s145 s146 s147 s148 s149 s150 s151 s152 s153 s154 s155 s156 s157 s158 s159 s160 s161 s162 s163 s164 s165 s166 s167 s168 s169 s170 s171 s172 s173 s174 s175 s176 s177 s178 s179 s180 s181 s182 s183 s184 s185 s186 s187 s188 s189 s190 s191 s192 s193 s194 s195 s196 s197 s198 s199 s200 s201 s202 s203 s204 s205 s206 s207 s208 s209 s210 s211 s212 s213 s214 s215 s216 s217 s218 s219 s220 s221 s222 s223 s224 s225 s226 s227 s228 s229 s230 s231 s232 s233 s234 s235 s236 s237 s238 s239 s240 s241 s242 s243 s244 s245 s246 s247 s248 s249 s250 s251 s252 s253 s254 s255 s256 s257 s258 s259 s260 s261 s262 s263 s264 s265 s266 s267 s268 s269 s270 s271 s272 s273 s274 s275 s276 s277 s278 s279 s280 s281 s282 s283 s284 s285 s286 s287 s288 s289 s290 : Value} {w : World}
    (l0 : bc < w.heap.size) (l1 : bx < w.heap.size) (l2 : br < w.heap.size) (l3 : bn < w.heap.size) (k0 : (kr : Int) < (nr : Int)) (k1 : (kn : Int) < (nf : Int))
    (e0 : w.cell? ⟨bc, 0, none⟩ = some (.slice (some ⟨br, orr, none⟩) nr cr)) (e1 : w.cell? ⟨bx, 3, none⟩ = some (.int .i64 (kr : Int))) (e2 : w.cell? ⟨bx, 4, none⟩ = some (.int .i64 (kn : Int))) (e3 : w.cell? ⟨br, orr + kr, none⟩ = some (.slice (some ⟨bn, on, none⟩) nf cf))
    (e4 : w.cell? ⟨bn, on + kn * 3, none⟩ = some (.int .i64 v0)) (e5 : w.cell? ⟨bn, on + kn * 3 + 1, none⟩ = some (.int .i64 v1)) (e6 : w.cell? ⟨bn, on + kn * 3 + 2, none⟩ = some (.bool v2))
    (h : ∀ W, VarAt W w.heap.size [.int .i64 v0, .int .i64 v1, .bool v2] 60 → Below w.heap.size w W → ∀ g : Nat → Value, Q .normal ⟨(s0 :: s1 :: s2 :: .pointer (some ⟨bc, 0, none⟩) :: s4 :: s5 :: s6 :: s7 :: .pointer (some ⟨bx, 0, none⟩) :: s9 :: s10 :: s11 :: s12 :: .pointer (some ⟨w.heap.size, 0, none⟩) :: s14 :: s15 :: s16 :: s17 :: s18 :: s19 :: s20 :: s21 :: s22 :: s23 :: s24 :: s25 :: s26 :: s27 :: s28 :: s29 :: s30 :: s31 :: s32 :: s33 :: s34 :: s35 :: s36 :: s37 :: s38 :: s39 :: s40 :: s41 :: s42 :: s43 :: s44 :: s45 :: s46 :: s47 :: s48 :: s49 :: s50 :: s51 :: s52 :: s53 :: s54 :: s55 :: s56 :: s57 :: s58 :: s59 :: s60 :: s61 :: s62 :: s63 :: s64 :: s65 :: s66 :: s67 :: s68 :: s69 :: s70 :: s71 :: s72 :: s73 :: s74 :: s75 :: s76 :: s77 :: s78 :: s79 :: s80 :: s81 :: s82 :: s83 :: s84 :: s85 :: s86 :: s87 :: s88 :: s89 :: s90 :: s91 :: s92 :: s93 :: s94 :: s95 :: s96 :: s97 :: s98 :: s99 :: s100 :: s101 :: s102 :: s103 :: s104 :: s105 :: s106 :: s107 :: s108 :: s109 :: s110 :: s111 :: s112 :: s113 :: s114 :: s115 :: s116 :: s117 :: s118 :: s119 :: s120 :: s121 :: s122 :: s123 :: s124 :: s125 :: s126 :: s127 :: s128 :: s129 :: s130 :: s131 :: s132 :: s133 :: s134 :: s135 :: s136 :: s137 :: s138 :: s139 :: s140 :: s141 :: s142 :: s143 :: s144 :: s145 :: s146 :: s147 :: s148 :: s149 :: s150 :: s151 :: s152 :: s153 :: s154 :: s155 :: s156 :: s157 :: s158 :: s159 :: s160 :: s161 :: s162 :: s163 :: s164 :: s165 :: s166 :: s167 :: s168 :: s169 :: s170 :: s171 :: s172 :: s173 :: s174 :: s175 :: s176 :: s177 :: s178 :: s179 :: s180 :: s181 :: s182 :: s183 :: s184 :: s185 :: s186 :: s187 :: s188 :: s189 :: s190 :: s191 :: s192 :: s193 :: s194 :: s195 :: s196 :: s197 :: s198 :: s199 :: s200 :: s201 :: s202 :: s203 :: s204 :: s205 :: s206 :: s207 :: s208 :: s209 :: s210 :: s211 :: s212 :: s213 :: s214 :: s215 :: s216 :: s217 :: s218 :: s219 :: s220 :: s221 :: s222 :: s223 :: s224 :: s225 :: s226 :: s227 :: s228 :: s229 :: s230 :: s231 :: s232 :: s233 :: s234 :: s235 :: s236 :: s237 :: s238 :: s239 :: s240 :: s241 :: s242 :: s243 :: s244 :: s245 :: s246 :: s247 :: s248 :: s249 :: s250 :: s251 :: s252 :: s253 :: s254 :: s255 :: s256 :: s257 :: s258 :: s259 :: s260 :: s261 :: s262 :: s263 :: s264 :: s265 :: s266 :: s267 :: s268 :: s269 :: s270 :: s271 :: s272 :: s273 :: s274 :: s275 :: s276 :: s277 :: s278 :: s279 :: s280 :: s281 :: s282 :: s283 :: s284 :: s285 :: s286 :: s287 :: s288 :: s289 :: s290 :: (g 291) :: (g 292) :: (g 293) :: (g 294) :: (g 295) :: (g 296) :: (g 297) :: (g 298) :: (g 299) :: (g 300) :: undef :: undef :: undef :: undef :: undef :: undef :: undef :: undef :: undef :: undef :: undef :: undef :: undef :: undef :: undef :: undef :: undef :: undef :: undef :: undef :: undef :: undef :: undef :: undef :: undef :: undef :: undef :: undef :: undef :: undef :: undef :: undef :: undef :: undef :: undef :: undef :: undef :: undef :: undef :: undef :: undef :: undef :: undef :: undef :: undef :: undef :: undef :: undef :: undef :: undef :: undef :: undef :: undef :: undef :: undef :: undef :: undef :: undef :: undef :: undef :: undef :: undef :: undef :: undef :: undef :: undef :: undef :: undef :: undef :: undef :: undef :: undef :: undef :: undef :: undef :: undef :: undef :: undef :: undef :: undef :: undef :: undef :: undef :: undef :: undef :: undef :: undef :: undef :: undef :: undef :: undef :: undef :: undef :: undef :: undef :: undef :: undef :: undef :: undef :: undef :: undef :: undef :: undef :: undef :: undef :: undef :: undef :: undef :: undef :: undef :: undef :: undef :: undef :: undef :: undef :: undef :: undef :: undef :: undef :: undef :: undef :: undef :: undef :: undef :: undef :: undef :: undef :: undef :: undef :: undef :: undef :: undef :: undef :: undef :: undef :: undef :: undef :: undef :: undef :: undef :: undef :: undef :: undef :: undef :: undef :: undef :: undef :: undef :: undef :: undef :: undef :: undef :: []).toArray, []⟩ W) :
    (Code.region 29 #[{ dst := some 291, op := Op.fieldAddr 41 (Operand.tmp 3) 0, type := 0, pos := "ref.go:145", after := #[], guard := none }, { dst := some 292, op := Op.load 35 (Operand.tmp 291), type := 35, pos := "ref.go:145", after := #[{ on := 0, ground := Ground.data }], guard := none }, { dst := some 293, op := Op.fieldAddr 58 (Operand.tmp 8) 3, type := 0, pos := "ref.go:145", after := #[], guard := none }, { dst := some 294, op := Op.load 3 (Operand.tmp 293), type := 3, pos := "ref.go:145", after := #[{ on := 2, ground := Ground.data }], guard := none }, { dst := some 295, op := Op.indexAddr 35 (Operand.tmp 292) (Operand.tmp 294), type := 0, pos := "ref.go:145", after := #[{ on := 1, ground := Ground.data }, { on := 3, ground := Ground.data }], guard := none }, { dst := some 296, op := Op.load 36 (Operand.tmp 295), type := 36, pos := "ref.go:145", after := #[{ on := 4, ground := Ground.data }], guard := none }, { dst := some 297, op := Op.fieldAddr 58 (Operand.tmp 8) 4, type := 0, pos := "ref.go:145", after := #[], guard := none }, { dst := some 298, op := Op.load 3 (Operand.tmp 297), type := 3, pos := "ref.go:145", after := #[{ on := 6, ground := Ground.data }], guard := none }, { dst := some 299, op := Op.indexAddr 36 (Operand.tmp 296) (Operand.tmp 298), type := 0, pos := "ref.go:145", after := #[{ on := 5, ground := Ground.data }, { on := 7, ground := Ground.data }], guard := none }, { dst := some 300, op := Op.load 60 (Operand.tmp 299), type := 60, pos := "ref.go:145", after := #[{ on := 8, ground := Ground.data }], guard := none }, { dst := some 13, op := Op.alloc 60, type := 0, pos := "ref.go:145", after := #[], guard := none }, { dst := none, op := Op.store 60 (Operand.tmp 13) (Operand.tmp 300), type := 0, pos := "ref.go:145", after := #[{ on := 10, ground := Ground.data }, { on := 9, ground := Ground.data }, { on := 0, ground := Ground.phase }, { on := 1, ground := Ground.phase }, { on := 2, ground := Ground.phase }, { on := 3, ground := Ground.phase }, { on := 4, ground := Ground.phase }, { on := 5, ground := Ground.phase }, { on := 6, ground := Ground.phase }, { on := 7, ground := Ground.phase }, { on := 8, ground := Ground.phase }, { on := 9, ground := Ground.phase }, { on := 10, ground := Ground.phase }], guard := none }] true).wp Tryd.prog Q ⟨(s0 :: s1 :: s2 :: .pointer (some ⟨bc, 0, none⟩) :: s4 :: s5 :: s6 :: s7 :: .pointer (some ⟨bx, 0, none⟩) :: s9 :: s10 :: s11 :: s12 :: s13 :: s14 :: s15 :: s16 :: s17 :: s18 :: s19 :: s20 :: s21 :: s22 :: s23 :: s24 :: s25 :: s26 :: s27 :: s28 :: s29 :: s30 :: s31 :: s32 :: s33 :: s34 :: s35 :: s36 :: s37 :: s38 :: s39 :: s40 :: s41 :: s42 :: s43 :: s44 :: s45 :: s46 :: s47 :: s48 :: s49 :: s50 :: s51 :: s52 :: s53 :: s54 :: s55 :: s56 :: s57 :: s58 :: s59 :: s60 :: s61 :: s62 :: s63 :: s64 :: s65 :: s66 :: s67 :: s68 :: s69 :: s70 :: s71 :: s72 :: s73 :: s74 :: s75 :: s76 :: s77 :: s78 :: s79 :: s80 :: s81 :: s82 :: s83 :: s84 :: s85 :: s86 :: s87 :: s88 :: s89 :: s90 :: s91 :: s92 :: s93 :: s94 :: s95 :: s96 :: s97 :: s98 :: s99 :: s100 :: s101 :: s102 :: s103 :: s104 :: s105 :: s106 :: s107 :: s108 :: s109 :: s110 :: s111 :: s112 :: s113 :: s114 :: s115 :: s116 :: s117 :: s118 :: s119 :: s120 :: s121 :: s122 :: s123 :: s124 :: s125 :: s126 :: s127 :: s128 :: s129 :: s130 :: s131 :: s132 :: s133 :: s134 :: s135 :: s136 :: s137 :: s138 :: s139 :: s140 :: s141 :: s142 :: s143 :: s144 :: s145 :: s146 :: s147 :: s148 :: s149 :: s150 :: s151 :: s152 :: s153 :: s154 :: s155 :: s156 :: s157 :: s158 :: s159 :: s160 :: s161 :: s162 :: s163 :: s164 :: s165 :: s166 :: s167 :: s168 :: s169 :: s170 :: s171 :: s172 :: s173 :: s174 :: s175 :: s176 :: s177 :: s178 :: s179 :: s180 :: s181 :: s182 :: s183 :: s184 :: s185 :: s186 :: s187 :: s188 :: s189 :: s190 :: s191 :: s192 :: s193 :: s194 :: s195 :: s196 :: s197 :: s198 :: s199 :: s200 :: s201 :: s202 :: s203 :: s204 :: s205 :: s206 :: s207 :: s208 :: s209 :: s210 :: s211 :: s212 :: s213 :: s214 :: s215 :: s216 :: s217 :: s218 :: s219 :: s220 :: s221 :: s222 :: s223 :: s224 :: s225 :: s226 :: s227 :: s228 :: s229 :: s230 :: s231 :: s232 :: s233 :: s234 :: s235 :: s236 :: s237 :: s238 :: s239 :: s240 :: s241 :: s242 :: s243 :: s244 :: s245 :: s246 :: s247 :: s248 :: s249 :: s250 :: s251 :: s252 :: s253 :: s254 :: s255 :: s256 :: s257 :: s258 :: s259 :: s260 :: s261 :: s262 :: s263 :: s264 :: s265 :: s266 :: s267 :: s268 :: s269 :: s270 :: s271 :: s272 :: s273 :: s274 :: s275 :: s276 :: s277 :: s278 :: s279 :: s280 :: s281 :: s282 :: s283 :: s284 :: s285 :: s286 :: s287 :: s288 :: s289 :: s290 :: undef :: undef :: undef :: undef :: undef :: undef :: undef :: undef :: undef :: undef :: undef :: undef :: undef :: undef :: undef :: undef :: undef :: undef :: undef :: undef :: undef :: undef :: undef :: undef :: undef :: undef :: undef :: undef :: undef :: undef :: undef :: undef :: undef :: undef :: undef :: undef :: undef :: undef :: undef :: undef :: undef :: undef :: undef :: undef :: undef :: undef :: undef :: undef :: undef :: undef :: undef :: undef :: undef :: undef :: undef :: undef :: undef :: undef :: undef :: undef :: undef :: undef :: undef :: undef :: undef :: undef :: undef :: undef :: undef :: undef :: undef :: undef :: undef :: undef :: undef :: undef :: undef :: undef :: undef :: undef :: undef :: undef :: undef :: undef :: undef :: undef :: undef :: undef :: undef :: undef :: undef :: undef :: undef :: undef :: undef :: undef :: undef :: undef :: undef :: undef :: undef :: undef :: undef :: undef :: undef :: undef :: undef :: undef :: undef :: undef :: undef :: undef :: undef :: undef :: undef :: undef :: undef :: undef :: undef :: undef :: undef :: undef :: undef :: undef :: undef :: undef :: undef :: undef :: undef :: undef :: undef :: undef :: undef :: undef :: undef :: undef :: undef :: undef :: undef :: undef :: undef :: undef :: undef :: undef :: undef :: undef :: undef :: undef :: undef :: undef :: undef :: undef :: undef :: undef :: undef :: undef :: undef :: undef :: undef :: undef :: undef :: undef :: []).toArray, []⟩ w := by
  refine Code.wp_mono (Q := Exit.then (Q .normal) (fun _ _ _ => False)) (fun e a w hh => by cases e <;> first | exact hh | exact hh.elim) ?_
  have SK : Hid (∀ w', Below w.heap.size w w' → (w'.cell? ⟨bc, 0, none⟩ = some (.slice (some ⟨br, orr, none⟩) nr cr) ∧ w'.cell? ⟨bx, 3, none⟩ = some (.int .i64 (kr : Int)) ∧ w'.cell? ⟨bx, 4, none⟩ = some (.int .i64 (kn : Int)) ∧ w'.cell? ⟨br, orr + kr, none⟩ = some (.slice (some ⟨bn, on, none⟩) nf cf) ∧ w'.cell? ⟨bn, on + kn * 3, none⟩ = some (.int .i64 v0) ∧ w'.cell? ⟨bn, on + kn * 3 + 1, none⟩ = some (.int .i64 v1) ∧ w'.cell? ⟨bn, on + kn * 3 + 2, none⟩ = some (.bool v2))) := hid (fun w' hb => ⟨(hb.cell (p := ⟨bc, 0, none⟩) l0).trans e0, (hb.cell (p := ⟨bx, 3, none⟩) l1).trans e1, (hb.cell (p := ⟨bx, 4, none⟩) l1).trans e2, (hb.cell (p := ⟨br, orr + kr, none⟩) l2).trans e3, (hb.cell (p := ⟨bn, on + kn * 3, none⟩) l3).trans e4, (hb.cell (p := ⟨bn, on + kn * 3 + 1, none⟩) l3).trans e5, (hb.cell (p := ⟨bn, on + kn * 3 + 2, none⟩) l3).trans e6⟩)
  clear e0 e1 e2 e3 e4 e5 e6
  have B0 := hid (Below.refl w.heap.size w).drew
  refine wp_region_held_drew (S := fun (w' : World) => w'.cell? ⟨bc, 0, none⟩ = some (.slice (some ⟨br, orr, none⟩) nr cr) ∧ w'.cell? ⟨bx, 3, none⟩ = some (.int .i64 (kr : Int)) ∧ w'.cell? ⟨bx, 4, none⟩ = some (.int .i64 (kn : Int)) ∧ w'.cell? ⟨br, orr + kr, none⟩ = some (.slice (some ⟨bn, on, none⟩) nf cf) ∧ w'.cell? ⟨bn, on + kn * 3, none⟩ = some (.int .i64 v0) ∧ w'.cell? ⟨bn, on + kn * 3 + 1, none⟩ = some (.int .i64 v1) ∧ w'.cell? ⟨bn, on + kn * 3 + 2, none⟩ = some (.bool v2)) (by kernel_rfl) (SK.out _ B0.out) (fun hHeld => ?_)
  refine wpAnyH_take (i := 0) (oi := { dst := some 291, op := Go.Op.fieldAddr 41 (Go.Operand.tmp 3) 0, type := 0, pos := "ref.go:145", after := #[], guard := none }) (v := ?_) rfl (by kernel_rfl) (by kernel_rfl) (by kernel_rfl) (fun _ _ _ hh => hh) (Or.inl ⟨by rfl, ?_⟩) hHeld ?_
  rotate_left
  · intro w0 hSw; (try dsimp only at hSw); go_simp; (try with_reducible rfl)
  try simp only [Act.put, List.setIfInBounds_toArray, List.set_cons_zero, List.set_cons_succ]
  refine wpAnyH_take (i := 1) (oi := { dst := some 292, op := Go.Op.load 35 (Go.Operand.tmp 291), type := 35, pos := "ref.go:145", after := #[{ on := 0, ground := Go.Ground.data }], guard := none }) (v := ?_) rfl (by kernel_rfl) (by kernel_rfl) (by kernel_rfl) (fun _ _ _ hh => hh) (Or.inl ⟨by rfl, ?_⟩) hHeld ?_
  rotate_left
  · intro w0 hSw; (try dsimp only at hSw); go_simp; (try with_reducible rfl)
  try simp only [Act.put, List.setIfInBounds_toArray, List.set_cons_zero, List.set_cons_succ]
  refine wpAnyH_take (i := 2) (oi := { dst := some 293, op := Go.Op.fieldAddr 58 (Go.Operand.tmp 8) 3, type := 0, pos := "ref.go:145", after := #[], guard := none }) (v := ?_) rfl (by kernel_rfl) (by kernel_rfl) (by kernel_rfl) (fun _ _ _ hh => hh) (Or.inl ⟨by rfl, ?_⟩) hHeld ?_
  rotate_left
  · intro w0 hSw; (try dsimp only at hSw); go_simp; (try with_reducible rfl)
  try simp only [Act.put, List.setIfInBounds_toArray, List.set_cons_zero, List.set_cons_succ]
  refine wpAnyH_take (i := 3) (oi := { dst := some 294, op := Go.Op.load 3 (Go.Operand.tmp 293), type := 3, pos := "ref.go:145", after := #[{ on := 2, ground := Go.Ground.data }], guard := none }) (v := ?_) rfl (by kernel_rfl) (by kernel_rfl) (by kernel_rfl) (fun _ _ _ hh => hh) (Or.inl ⟨by rfl, ?_⟩) hHeld ?_
  rotate_left
  · intro w0 hSw; (try dsimp only at hSw); go_simp; (try with_reducible rfl)
  try simp only [Act.put, List.setIfInBounds_toArray, List.set_cons_zero, List.set_cons_succ]
  refine wpAnyH_take (i := 4) (oi := { dst := some 295, op := Go.Op.indexAddr 35 (Go.Operand.tmp 292) (Go.Operand.tmp 294), type := 0, pos := "ref.go:145", after := #[{ on := 1, ground := Go.Ground.data }, { on := 3, ground := Go.Ground.data }], guard := none }) (v := ?_) rfl (by kernel_rfl) (by kernel_rfl) (by kernel_rfl) (fun _ _ _ hh => hh) (Or.inl ⟨by rfl, ?_⟩) hHeld ?_
  rotate_left
  · intro w0 hSw; (try dsimp only at hSw); go_simp; (try with_reducible rfl)
  try simp only [Act.put, List.setIfInBounds_toArray, List.set_cons_zero, List.set_cons_succ]
  refine wpAnyH_take (i := 5) (oi := { dst := some 296, op := Go.Op.load 36 (Go.Operand.tmp 295), type := 36, pos := "ref.go:145", after := #[{ on := 4, ground := Go.Ground.data }], guard := none }) (v := ?_) rfl (by kernel_rfl) (by kernel_rfl) (by kernel_rfl) (fun _ _ _ hh => hh) (Or.inl ⟨by rfl, ?_⟩) hHeld ?_
  rotate_left
  · intro w0 hSw; (try dsimp only at hSw); go_simp; (try with_reducible rfl)
  try simp only [Act.put, List.setIfInBounds_toArray, List.set_cons_zero, List.set_cons_succ]
  refine wpAnyH_take (i := 6) (oi := { dst := some 297, op := Go.Op.fieldAddr 58 (Go.Operand.tmp 8) 4, type := 0, pos := "ref.go:145", after := #[], guard := none }) (v := ?_) rfl (by kernel_rfl) (by kernel_rfl) (by kernel_rfl) (fun _ _ _ hh => hh) (Or.inl ⟨by rfl, ?_⟩) hHeld ?_
  rotate_left
  · intro w0 hSw; (try dsimp only at hSw); go_simp; (try with_reducible rfl)
  try simp only [Act.put, List.setIfInBounds_toArray, List.set_cons_zero, List.set_cons_succ]
  refine wpAnyH_take (i := 7) (oi := { dst := some 298, op := Go.Op.load 3 (Go.Operand.tmp 297), type := 3, pos := "ref.go:145", after := #[{ on := 6, ground := Go.Ground.data }], guard := none }) (v := ?_) rfl (by kernel_rfl) (by kernel_rfl) (by kernel_rfl) (fun _ _ _ hh => hh) (Or.inl ⟨by rfl, ?_⟩) hHeld ?_
  rotate_left
  · intro w0 hSw; (try dsimp only at hSw); go_simp; (try with_reducible rfl)
  try simp only [Act.put, List.setIfInBounds_toArray, List.set_cons_zero, List.set_cons_succ]
  refine wpAnyH_take (i := 8) (oi := { dst := some 299, op := Go.Op.indexAddr 36 (Go.Operand.tmp 296) (Go.Operand.tmp 298), type := 0, pos := "ref.go:145", after := #[{ on := 5, ground := Go.Ground.data }, { on := 7, ground := Go.Ground.data }], guard := none }) (v := ?_) rfl (by kernel_rfl) (by kernel_rfl) (by kernel_rfl) (fun _ _ _ hh => hh) (Or.inl ⟨by rfl, ?_⟩) hHeld ?_
  rotate_left
  · intro w0 hSw; (try dsimp only at hSw); go_simp; (try with_reducible rfl)
  try simp only [Act.put, List.setIfInBounds_toArray, List.set_cons_zero, List.set_cons_succ]
  refine wpAnyH_take (i := 9) (oi := { dst := some 300, op := Go.Op.load 60 (Go.Operand.tmp 299), type := 60, pos := "ref.go:145", after := #[{ on := 8, ground := Go.Ground.data }], guard := none }) (v := ?_) rfl (by kernel_rfl) (by kernel_rfl) (by kernel_rfl) (fun _ _ _ hh => hh) (Or.inl ⟨by rfl, ?_⟩) hHeld ?_
  rotate_left
  · intro w0 hSw; (try dsimp only at hSw); go_simp; (try with_reducible rfl)
  try simp only [Act.put, List.setIfInBounds_toArray, List.set_cons_zero, List.set_cons_succ]
  refine wpAnyH_ready (rs := [10]) (by kernel_rfl) (by simp) ?_
  refine AllReadyH.cons (o := { dst := some 13, op := Go.Op.alloc 60, type := 0, pos := "ref.go:145", after := #[], guard := none }) rfl (fun K' hK' => ?_) AllReadyH.nil
  go_simp
  have V1 := hid (VarAt.new w.drew [.int .i64 0, .int .i64 0, .bool false] 60)
  have B1 := hid (B0.out.alloc B0.out.size (.cells #[.int .i64 0, .int .i64 0, .bool false] 60))
  try simp only [size_drew] at V1
  refine hK'.out _ _ (SK.out _ B1.out) (fun hHeld => ?_)
  clear hK' K'
  try simp only [Act.put, List.setIfInBounds_toArray, List.set_cons_zero, List.set_cons_succ]
  refine wpAnyH_ready (rs := [11]) (by kernel_rfl) (by simp) ?_
  refine AllReadyH.cons (o := { dst := none, op := Go.Op.store 60 (Go.Operand.tmp 13) (Go.Operand.tmp 300), type := 0, pos := "ref.go:145", after := #[{ on := 10, ground := Go.Ground.data }, { on := 9, ground := Go.Ground.data }, { on := 0, ground := Go.Ground.phase }, { on := 1, ground := Go.Ground.phase }, { on := 2, ground := Go.Ground.phase }, { on := 3, ground := Go.Ground.phase }, { on := 4, ground := Go.Ground.phase }, { on := 5, ground := Go.Ground.phase }, { on := 6, ground := Go.Ground.phase }, { on := 7, ground := Go.Ground.phase }, { on := 8, ground := Go.Ground.phase }, { on := 9, ground := Go.Ground.phase }, { on := 10, ground := Go.Ground.phase }], guard := none }) rfl (fun K' hK' => ?_) AllReadyH.nil
  refine step_store 60 _ _ (by rfl) (by rfl) _ (by rfl) [.int .i64 v0, .int .i64 v1, .bool v2] (by rfl) Z42 (one42 _ _ _) _ 60 V1.out rfl rfl ?_
  intro w3 hv hu
  have B2 := hid (hu.below B1.out (Nat.le_refl _))
  refine hK'.out _ _ (SK.out _ B2.out) (fun hHeld => ?_)
  clear hK' K'
  try simp only [Act.put, List.setIfInBounds_toArray, List.set_cons_zero, List.set_cons_succ]
  refine wpAnyH_done (by kernel_rfl) ?_ _
  exact h w3 hv B2.out (fun k => (([.pointer (some ⟨bc, 0, none⟩), .slice (some ⟨br, orr, none⟩) nr cr, .pointer (some ⟨bx, 3, none⟩), .int .i64 (kr : Int), .pointer (some ⟨br, orr + kr, none⟩), .slice (some ⟨bn, on, none⟩) nf cf, .pointer (some ⟨bx, 4, none⟩), .int .i64 (kn : Int), .pointer (some ⟨bn, on + kn * 3, none⟩), .agg #[.int .i64 v0, .int .i64 v1, .bool v2]] : List Value)).getD (k - 291) undef)
end Go.Proofs.YtdpbapoahfggeaaDoor
