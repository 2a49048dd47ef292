/- The contract of do, kind by kind: those that bring one thing. -/
import Derived.Test.YtdpbapoahfggeaaDoorM15
import Derived.Deep.RegionHeld3
namespace Go.Proofs.YtdpbapoahfggeaaDoor
open Go.ChangeShapes Go.WideShapes Go.ChangeAt Go.RowKit
set_option linter.unusedVariables false
set_option linter.unusedSimpArgs false

/-- What the solver may touch. -/
def Own (base top sb : Nat) (b : Nat) : Prop := (base ≤ b ∧ b < top) ∨ b = sb

theorem bring_eq {R : List (List Nat)} {r j m : Nat} (hj : j < (R.getD r []).length) : bringR R r j m = R ↔ gR R r j ||| m = gR R r j := by
  constructor
  · intro h
    have := congrArg (fun X => gR X r j) h
    simp only [bringR] at this
    rw [gR_set hj, if_pos ⟨rfl, rfl⟩] at this
    exact this
  · intro h
    refine R_ext (shp_bring _ _ _ _) fun r' j' => ?_
    unfold bringR
    rw [gR_set hj]
    split
    · rename_i e; rw [e.1, e.2, h]
    · rfl

theorem bringS_any {sb base top : Nat} {c : Cd} {v0 v1 v2 : Value} {g : Bool} {R : List (List Nat)} {V : Nat → Value} {B : Nat → Nat} (r j m : Nat) (W : World) (h : Sol W sb base top c v0 v1 v2 g R V B) (hU : AllU R) (hj : j < (R.getD r []).length) (hm : m < 2 ^ 64) :
    Calls Tryd.prog 40 #[.pointer (some ⟨sb, 0, none⟩), .int .u64 (m : Int), .pointer (some ⟨B r, j, none⟩)] W fun e W' => e = .returned (.tuple #[]) ∧
      Sol W' sb base top c v0 v1 v2 (g || decide (bringR R r j m ≠ R)) (bringR R r j m) V B ∧ Touch (Own base top sb) W W' := by
  obtain ⟨cp, k1, k2, k3, k4, k5⟩ := h.sets.at hj
  obtain ⟨ha, hz⟩ := h.above
  refine (bring_any sb (B r) j m (R.getD r []) _ _ _ _ _ _ _ _ g W h.box k2 hj (by omega) hm (hU r j)).mono ?_
  rintro e W' ⟨h1, h2, h3, h4⟩
  refine ⟨h1, ⟨?_, ?_, ha, Nat.le_trans hz h4.size⟩, h4.mono (fun b _ q => ?_)⟩
  · have : decide (bringR R r j m ≠ R) = decide ((R.getD r []).getD j 0 ||| m ≠ (R.getD r []).getD j 0) := by
      have := bring_eq (m := m) hj
      unfold gR at this
      simp only [ne_eq, this]
    rw [this]; exact h2
  · exact h.sets.set r j _ hj h4 (fun b q1 q2 q3 q4 => by rcases q4 with q4 | q4 <;> omega) h3
  · rcases q with q | q
    · exact .inr q
    · exact .inl (by omega)

theorem grew_bring {c : Cd} {i : Nat} {b : Bd} {x : Ins} {R : List (List Nat)} {r j m : Nat} (hj : j < (R.getD r []).length) (h1 : ∀ T, shp T = shp R → Cl c i b T x → LeR R T → Sub m (gR T r j)) (h2 : Sub m (gR R r j) → Cl c i b R x) : Grew c i b x R (bringR R r j m) :=
  ⟨shp_bring _ _ _ _, le_bring hj, fun T hs hc hl => bring_le hj hl (h1 T hs hc hl), fun e => h2 (Sub.of_or_eq ((bring_eq hj).1 e))⟩

/-- What a step is handed. -/
structure Fed (W : World) (sb base top : Nat) (c : Cd) (v0 v1 v2 : Value) (g : Bool) (R : List (List Nat)) (V : Nat → Value) (B : Nat → Nat) (t : Bd) (s : Stp) : Prop where
  sol : Sol W sb base top c v0 v1 v2 g R V B
  good : GoodP c
  low : Low c R
  th : c.threads[s.i]? = some t
  co : ∃ j : Nat, t.code[j]? = some s.x
  us : s.l = usesN s.x.items
  nums : NumsM W (max top (sb + 1)) W.heap.size s.v s.l
  tg : tgtM c t s.x = true

theorem row_at {c : Cd} {R : List (List Nat)} (h : Low c R) (r : Nat) : (R.getD r []).length = (shapeC c).getD r 0 := by rw [row_len, h.1]

section
variable {W : World} {sb base top : Nat} {c : Cd} {v0 v1 v2 : Value} {g : Bool} {R : List (List Nat)} {V : Nat → Value} {B : Nat → Nat} {t : Bd} {s : Stp}

theorem Fed.uses (h : Fed W sb base top c v0 v1 v2 g R V B t s) : (∀ q ∈ s.l, q < (R.getD s.i []).length) ∧ s.l.length ≤ 1000 := by
  obtain ⟨j, hx⟩ := h.co
  have F := ins_facts h.good h.th hx
  rw [row_at h.low, shape_slots c h.th, h.us]
  cases hI : hasI s.x.op with
  | false => rw [F.no hI]; exact ⟨fun q hq => by simp [usesN] at hq, by simp [usesN]⟩
  | true =>
    obtain ⟨g1, g2⟩ := good_can (F.it hI)
    refine ⟨fun q hq => ?_, ?_⟩
    · by_cases h0 : 0 < t.slots.length
      · exact uses_lt g2 h0 q hq
      · exfalso
        unfold usesN at hq
        obtain ⟨x, hx, e⟩ := List.mem_filterMap.1 hq
        split at e
        · rename_i ho
          have := g2 x hx
          unfold can at this
          have ho' : x.op = 2 := by simpa using ho
          rw [ho'] at this
          simp at this
          omega
        · cases e
    · have : (usesN s.x.items).length ≤ s.x.items.length := by unfold usesN; exact List.length_filterMap_le _ _
      omega
theorem Fed.ti (h : Fed W sb base top c v0 v1 v2 g R V B t s) : s.i < c.threads.length := (List.getElem?_eq_some_iff.1 h.th).1
end

theorem shl_eq (n : Nat) (h : n < 64) : ((2 ^ n : Nat) : Int) = IntKind.u64.wrap ((2 : Int) ^ n) := by
  have h1 : 2 ^ n < 2 ^ 64 := Nat.pow_lt_pow_right (by omega) h
  rw [p64] at h1
  have e : ((2 : Int) ^ n) = ((2 ^ n : Nat) : Int) := by simp
  rw [IntKind.wrap_u64, e]
  generalize (2 : Nat) ^ n = z at *
  omega

/-- The worlds of a call of do: its boxes, the solver, what was touched. -/
structure DoW (W : World) (sb base top : Nat) (c : Cd) (v0 v1 v2 : Value) (g : Bool) (R : List (List Nat)) (V : Nat → Value) (B : Nat → Nat) (s : Stp) (row : Value) (Y : World) : Prop where
  b2 : VarAt Y W.heap.size [.pointer (some ⟨sb, 0, none⟩)] 85
  b3 : VarAt Y (W.heap.size + 1) s.cells 73
  b4 : VarAt Y (W.heap.size + 2) [row] 27
  sol : Sol Y sb base top c v0 v1 v2 g R V B
  tch : Touch (Own base top sb) W Y
  nums : NumsM Y (max top (sb + 1)) W.heap.size s.v s.l
  hi : top ≤ W.heap.size
section
variable {W Y Y' : World} {sb base top : Nat} {c : Cd} {v0 v1 v2 : Value} {g g' : Bool} {R R' : List (List Nat)} {V : Nat → Value} {B : Nat → Nat} {s : Stp} {row : Value}
theorem DoW.kept (h : DoW W sb base top c v0 v1 v2 g R V B s row Y) (k : Below Y.heap.size Y Y') : DoW W sb base top c v0 v1 v2 g R V B s row Y' :=
  ⟨h.b2.kept k, h.b3.kept k, h.b4.kept k, h.sol.kept k, h.tch.trans (Touch.of_below k), h.nums.kept k, h.hi⟩
theorem DoW.drew (h : DoW W sb base top c v0 v1 v2 g R V B s row Y) : DoW W sb base top c v0 v1 v2 g R V B s row Y.drew := h.kept (Below.refl _ _).drew
theorem DoW.brought (h : DoW W sb base top c v0 v1 v2 g R V B s row Y) (hsb : sb < W.heap.size) (h1 : Sol Y' sb base top c v0 v1 v2 g' R' V B) (h2 : Touch (Own base top sb) Y Y') : DoW W sb base top c v0 v1 v2 g' R' V B s row Y' := by
  have ha := h.hi
  have nt : ∀ b, W.heap.size ≤ b → ¬ Own base top sb b := fun b hb q => by rcases q with q | q <;> omega
  exact ⟨h.b2.touch h2 (nt _ (by omega)), h.b3.touch h2 (nt _ (by omega)), h.b4.touch h2 (nt _ (by omega)), h1, h.tch.trans h2, h.nums.touch h2 (fun b hb _ q => by rcases q with q | q <;> omega), h.hi⟩
theorem DoW.aside (h : DoW W sb base top c v0 v1 v2 g R V B s row Y) (hsb : sb < W.heap.size) {T : Nat → Prop} (k : Touch T Y Y') (hT : ∀ b, b < W.heap.size + 3 → ¬ T b) : DoW W sb base top c v0 v1 v2 g R V B s row Y' := by
  have ha := h.hi
  have z2 := h.b2.lt
  refine ⟨h.b2.touch k (hT _ (by omega)), h.b3.touch k (hT _ (by omega)), h.b4.touch k (hT _ (by omega)), h.sol.touch k (fun b _ hb => hT b (by omega)) (hT sb (by omega)), ?_, h.nums.touch k (fun b _ hb => hT b (by omega)), h.hi⟩
  exact ⟨k.os.trans h.tch.os, k.tape.trans h.tch.tape, k.output.trans h.tch.output, Nat.le_trans h.tch.size k.size, fun b hb hn => (k.block b (Nat.lt_of_lt_of_le hb h.tch.size) (hT b (by omega))).trans (h.tch.block b hb hn)⟩
theorem cells_of (h : DoW W sb base top c v0 v1 v2 g R V B s row Y) :
    Y.cell? ⟨W.heap.size, 0, none⟩ = some (.pointer (some ⟨sb, 0, none⟩)) ∧ Y.cell? ⟨W.heap.size + 1, 0, none⟩ = some (.int .i64 s.x.op) ∧ Y.cell? ⟨W.heap.size + 1, 1, none⟩ = some (.int .i64 s.x.dst) ∧ Y.cell? ⟨W.heap.size + 1, 2, none⟩ = some (.int .i64 s.x.src) ∧ Y.cell? ⟨W.heap.size + 1, 3, none⟩ = some (.int .i64 s.x.rc) ∧ Y.cell? ⟨W.heap.size + 1, 4, none⟩ = some (.int .i64 s.x.n) ∧ Y.cell? ⟨W.heap.size + 1, 5, none⟩ = some (.int .i64 s.x.to) ∧ Y.cell? ⟨W.heap.size + 1, 6, none⟩ = some s.x.iv ∧ Y.cell? ⟨W.heap.size + 1, 7, none⟩ = some s.x.xv ∧ Y.cell? ⟨W.heap.size + 1, 8, none⟩ = some (.int .i64 (s.i : Int)) ∧ Y.cell? ⟨W.heap.size + 1, 9, none⟩ = some s.v ∧ Y.cell? ⟨W.heap.size + 2, 0, none⟩ = some row :=
  ⟨h.b2.cell 0 rfl, h.b3.cell 0 rfl, h.b3.cell 1 rfl, h.b3.cell 2 rfl, h.b3.cell 3 rfl, h.b3.cell 4 rfl, h.b3.cell 5 rfl, h.b3.cell 6 rfl, h.b3.cell 7 rfl, h.b3.cell 8 rfl, h.b3.cell 9 rfl, h.b4.cell 0 rfl⟩
/-- Behind the first region. -/
theorem DoW.start (hs : Sol W sb base top c v0 v1 v2 g R V B) (hn : NumsM W (max top (sb + 1)) W.heap.size s.v s.l) : DoW W sb base top c v0 v1 v2 g R V B s row ((((W.alloc (.cells #[.pointer (some ⟨sb, 0, none⟩)] 85)).alloc (.cells s.cells.toArray 73)).alloc (.cells #[row] 27)).drew) := by
  have B3 := (below3 W (.cells #[.pointer (some ⟨sb, 0, none⟩)] 85) (.cells s.cells.toArray 73) (.cells #[row] 27)).drew
  refine ⟨?_, ?_, ?_, hs.kept B3, Touch.of_below B3, hn.kept B3, hs.above.2⟩
  · exact (((VarAt.new W [.pointer (some ⟨sb, 0, none⟩)] 85).past _).past _).kept (Below.refl _ _).drew
  · have := (((VarAt.new (W.alloc (.cells #[.pointer (some ⟨sb, 0, none⟩)] 85)) s.cells 73).past (.cells #[row] 27))).kept (Below.refl _ _).drew
    simp only [World.size_alloc] at this
    exact this
  · have := (VarAt.new ((W.alloc (.cells #[.pointer (some ⟨sb, 0, none⟩)] 85)).alloc (.cells s.cells.toArray 73)) [row] 27).kept (Below.refl _ _).drew
    simp only [World.size_alloc] at this
    exact this
/-- A row's set, behind the boxes. -/
theorem DoW.rowAt (h : DoW W sb base top c v0 v1 v2 g R V B s row Y) {r j : Nat} (hj : j < (R.getD r []).length) : Y.cell? ⟨B r, j, none⟩ = some (.int .u64 ((gR R r j : Nat) : Int)) := by
  obtain ⟨_, _, _, _, _, k5⟩ := h.sol.sets.at hj
  exact k5
end

set_option maxRecDepth 100000 in
set_option maxHeartbeats 2000000 in
theorem do8 {W : World} {sb base top : Nat} {c : Cd} {v0 v1 v2 : Value} {g : Bool} {R : List (List Nat)} {V : Nat → Value} {B : Nat → Nat} {t : Bd} {s : Stp} (h : Fed W sb base top c v0 v1 v2 g R V B t s) (hop : s.x.op = 8) :
    Calls Tryd.prog 25 #[.pointer (some ⟨sb, 0, none⟩), .agg s.cells.toArray] W fun e W' => e = .returned (.tuple #[]) ∧ ∃ R', Sol W' sb base top c v0 v1 v2 (g || decide (R' ≠ R)) R' V B ∧ Grew c s.i t s.x R R' ∧ Touch (Own base top sb) W W' := by
  obtain ⟨j, hx⟩ := h.co
  have F := ins_facts h.good h.th hx
  have hti := h.ti
  have hnm := h.nums
  obtain ⟨hul, hu1⟩ := h.uses
  have hus := h.us
  have hU := h.low.allU h.good
  obtain ⟨d, hd, hdl⟩ := F.d (hasD_of (by simp [hop]))
  obtain ⟨n, hn, hnl⟩ := F.m (by simp [hop])
  have hn64 : n < 64 := by have := h.good.l4; omega
  have hrow : d < (R.getD s.i []).length := by rw [row_at h.low, shape_slots c h.th]; exact hdl
  have htg : meansL (slotOf t s.x) = true := by have := h.tg; rw [tgtM, if_pos (hasD_of (by simp [hop]))] at this; exact this
  have G := grew_bring (c := c) (i := s.i) (b := t) (x := s.x) (m := 2 ^ n) hrow (fun T _ hC _ => by
    have := hC.o8 (by simp [hop]) htg
    rw [hd, hn, Int.toNat_natCast, Int.toNat_natCast] at this
    intro k hk
    rw [Nat.testBit_two_pow] at hk
    have : k = n := by have := of_decide_eq_true hk; exact this.symm
    subst this; assumption) (fun hS => ⟨fun a => by omega, fun a => by omega, fun a => by omega, fun a => by omega, fun a => by omega, fun a m => by
      rw [hd, hn, Int.toNat_natCast, Int.toNat_natCast]
      exact hS n (by rw [Nat.testBit_two_pow]; simp)⟩)
  have C := fun X h => bringS_any (sb := sb) (base := base) (top := top) (c := c) (v0 := v0) (v1 := v1) (v2 := v2) (g := g) (V := V) (B := B) s.i d (2 ^ n) X h hU hrow (Nat.pow_lt_pow_right (by omega) hn64)
  have c5 := h.sol.box.cell 5 (v := v0) rfl
  obtain ⟨oa, oc, e0, ho⟩ := h.sol.sets.o0
  obtain ⟨ob, ooff, e1, o2, o3, o4, o5, o6⟩ := ho s.i hti
  subst e1
  obtain ⟨cp, k1, k2, k3, k4, k5⟩ := h.sol.sets.at hrow
  rw [k1] at o6
  have hsb := h.sol.box.lt
  have Sl := hid h.sol
  obtain ⟨⟨op, dst, src, rc, nn, tt, its, iv, idx, xv⟩, i, l, v⟩ := s
  simp only at *
  subst hop hd hn
  clear h hx F htg ho
  subst e0
  generalize hrl : (R.getD i []).length = rl at *
  have D := DoW.start (row := .slice (some ⟨B i, 0, none⟩) rl cp) (s := ⟨⟨8, (d : Int), src, rc, (n : Int), tt, its, iv, idx, xv⟩, i, l, v⟩) Sl.out hnm
  simp only [Stp.cells] at D ⊢
  replace D := hid D
  replace C := hid C
  replace G := hid G
  replace hU := hid hU
  replace hrl := hid hrl
  clear k1 k2 k3 k4 k5 o2 o3 o5
  go_enter Tryd.func25, Tryd.ntmps25
  go_wp2_with fail
  have BX := below_two W (.cells #[.pointer (some ⟨sb, 0, none⟩)] 85) (.cells #[.int .i64 8, .int .i64 (d : Int), .int .i64 src, .int .i64 rc, .int .i64 (n : Int), .int .i64 tt, iv, xv, .int .i64 (i : Int), v] 73)
  have hsX := Nat.lt_of_lt_of_le hsb BX.size
  have hoX := Nat.lt_of_lt_of_le o4 BX.size
  rw [← BX.cell hsb] at c5
  rw [← BX.cell o4] at o6
  have x0 := ((VarAt.new W [.pointer (some ⟨sb, 0, none⟩)] 85).past (.cells #[.int .i64 8, .int .i64 (d : Int), .int .i64 src, .int .i64 rc, .int .i64 (n : Int), .int .i64 tt, iv, xv, .int .i64 (i : Int), v] 73)).cell 0 (v := .pointer (some ⟨sb, 0, none⟩)) rfl
  have x8 := (VarAt.new (W.alloc (.cells #[.pointer (some ⟨sb, 0, none⟩)] 85)) [.int .i64 8, .int .i64 (d : Int), .int .i64 src, .int .i64 rc, .int .i64 (n : Int), .int .i64 tt, iv, xv, .int .i64 (i : Int), v] 73).cell 8 (v := .int .i64 (i : Int)) rfl
  simp only [World.size_alloc] at x8
  have hXs : ((W.alloc (.cells #[.pointer (some ⟨sb, 0, none⟩)] 85)).alloc (.cells #[.int .i64 8, .int .i64 (d : Int), .int .i64 src, .int .i64 rc, .int .i64 (n : Int), .int .i64 tt, iv, xv, .int .i64 (i : Int), v] 73)).heap.size = W.heap.size + 2 := by simp
  generalize hX : (W.alloc (.cells #[.pointer (some ⟨sb, 0, none⟩)] 85)).alloc (.cells #[.int .i64 8, .int .i64 (d : Int), .int .i64 src, .int .i64 rc, .int .i64 (n : Int), .int .i64 tt, iv, xv, .int .i64 (i : Int), v] 73) = X at *
  clear hX BX
  have q2 : W.heap.size < X.heap.size := by omega
  have q3 : W.heap.size + 1 < X.heap.size := by omega
  go_region_held3 (fun w' => w'.cell? ⟨W.heap.size, 0, none⟩ = some (.pointer (some ⟨sb, 0, none⟩)) ∧ w'.cell? ⟨W.heap.size + 1, 8, none⟩ = some (.int .i64 (i : Int)) ∧ w'.cell? ⟨sb, 5, none⟩ = some (.slice (some ⟨ob, ooff, none⟩) c.threads.length oc) ∧ w'.cell? ⟨ob, ooff + i, none⟩ = some (.slice (some ⟨B i, 0, none⟩) rl cp)) (go_keep) (fail)
  rename_i hHeld
  clear hHeld
  generalize hY : (X.alloc (.cells #[.slice (some ⟨B i, 0, none⟩) rl cp] 27)).drew = Y at *
  clear hY q2 q3 x0 x8 hoX hsX c5 o6 o4 hXs
  obtain ⟨y0, y30, y31, y32, y33, y34, y35, y36, y37, y38, y39, y4⟩ := cells_of D.out
  have r2 := D.out.b2.lt
  have r3 := D.out.b3.lt
  have r4 := D.out.b4.lt
  simp only at y30 y31 y32 y33 y34 y35 y36 y37 y38 y39
  go_wp2_with fail
  have DD := D.out.drew
  have fin := C.out _ DD.sol
  rw [shl_eq n hn64] at fin
  replace fin := hid fin
  replace DD := hid DD
  clear C D
  go_region_held3 (fun w' => w'.cell? ⟨W.heap.size, 0, none⟩ = some (.pointer (some ⟨sb, 0, none⟩)) ∧ w'.cell? ⟨W.heap.size + 1, 0, none⟩ = some (.int .i64 8) ∧ w'.cell? ⟨W.heap.size + 1, 1, none⟩ = some (.int .i64 (d : Int)) ∧ w'.cell? ⟨W.heap.size + 1, 2, none⟩ = some (.int .i64 src) ∧ w'.cell? ⟨W.heap.size + 1, 3, none⟩ = some (.int .i64 rc) ∧ w'.cell? ⟨W.heap.size + 1, 4, none⟩ = some (.int .i64 (n : Int)) ∧ w'.cell? ⟨W.heap.size + 1, 5, none⟩ = some (.int .i64 tt) ∧ w'.cell? ⟨W.heap.size + 1, 6, none⟩ = some (iv) ∧ w'.cell? ⟨W.heap.size + 1, 7, none⟩ = some (xv) ∧ w'.cell? ⟨W.heap.size + 1, 8, none⟩ = some (.int .i64 (i : Int)) ∧ w'.cell? ⟨W.heap.size + 1, 9, none⟩ = some (v) ∧ w'.cell? ⟨W.heap.size + 2, 0, none⟩ = some (.slice (some ⟨B i, 0, none⟩) rl cp)) (first | go_keep | exact cells_of DD.out | exact cells_of D2.out) ((go_at_call 40; with_reducible refine Calls.mono fin.out ?_; rintro e W2 ⟨rfl, h1, h2⟩; have D2 := hid (DD.out.brought hsb h1 h2)))
  rename_i D2 hHeld
  clear hHeld
  go_wp2_with fail
  go_end0
  exact ⟨rfl, _, D2.out.sol, G.out, D2.out.tch⟩

set_option maxRecDepth 100000 in
set_option maxHeartbeats 2000000 in
theorem do9 {W : World} {sb base top : Nat} {c : Cd} {v0 v1 v2 : Value} {g : Bool} {R : List (List Nat)} {V : Nat → Value} {B : Nat → Nat} {t : Bd} {s : Stp} (h : Fed W sb base top c v0 v1 v2 g R V B t s) (hop : s.x.op = 9) :
    Calls Tryd.prog 25 #[.pointer (some ⟨sb, 0, none⟩), .agg s.cells.toArray] W fun e W' => e = .returned (.tuple #[]) ∧ ∃ R', Sol W' sb base top c v0 v1 v2 (g || decide (R' ≠ R)) R' V B ∧ Grew c s.i t s.x R R' ∧ Touch (Own base top sb) W W' := by
  obtain ⟨j, hx⟩ := h.co
  have F := ins_facts h.good h.th hx
  have hti := h.ti
  have hnm := h.nums
  obtain ⟨hul, hu1⟩ := h.uses
  have hus := h.us
  have hU := h.low.allU h.good
  obtain ⟨d, hd, hdl⟩ := F.d (hasD_of (by simp [hop]))
  obtain ⟨n, hn, hnl⟩ := F.m (by simp [hop])
  have hn64 : n < 64 := by have := h.good.l4; omega
  have hrow : d < (R.getD s.i []).length := by rw [row_at h.low, shape_slots c h.th]; exact hdl
  have htg : meansL (slotOf t s.x) = true := by have := h.tg; rw [tgtM, if_pos (hasD_of (by simp [hop]))] at this; exact this
  have G := grew_bring (c := c) (i := s.i) (b := t) (x := s.x) (m := 2 ^ n) hrow (fun T _ hC _ => by
    have := hC.o8 (by simp [hop]) htg
    rw [hd, hn, Int.toNat_natCast, Int.toNat_natCast] at this
    intro k hk
    rw [Nat.testBit_two_pow] at hk
    have : k = n := by have := of_decide_eq_true hk; exact this.symm
    subst this; assumption) (fun hS => ⟨fun a => by omega, fun a => by omega, fun a => by omega, fun a => by omega, fun a => by omega, fun a m => by
      rw [hd, hn, Int.toNat_natCast, Int.toNat_natCast]
      exact hS n (by rw [Nat.testBit_two_pow]; simp)⟩)
  have C := fun X h => bringS_any (sb := sb) (base := base) (top := top) (c := c) (v0 := v0) (v1 := v1) (v2 := v2) (g := g) (V := V) (B := B) s.i d (2 ^ n) X h hU hrow (Nat.pow_lt_pow_right (by omega) hn64)
  have c5 := h.sol.box.cell 5 (v := v0) rfl
  obtain ⟨oa, oc, e0, ho⟩ := h.sol.sets.o0
  obtain ⟨ob, ooff, e1, o2, o3, o4, o5, o6⟩ := ho s.i hti
  subst e1
  obtain ⟨cp, k1, k2, k3, k4, k5⟩ := h.sol.sets.at hrow
  rw [k1] at o6
  have hsb := h.sol.box.lt
  have Sl := hid h.sol
  obtain ⟨⟨op, dst, src, rc, nn, tt, its, iv, idx, xv⟩, i, l, v⟩ := s
  simp only at *
  subst hop hd hn
  clear h hx F htg ho
  subst e0
  generalize hrl : (R.getD i []).length = rl at *
  have D := DoW.start (row := .slice (some ⟨B i, 0, none⟩) rl cp) (s := ⟨⟨9, (d : Int), src, rc, (n : Int), tt, its, iv, idx, xv⟩, i, l, v⟩) Sl.out hnm
  simp only [Stp.cells] at D ⊢
  replace D := hid D
  replace C := hid C
  replace G := hid G
  replace hU := hid hU
  replace hrl := hid hrl
  clear k1 k2 k3 k4 k5 o2 o3 o5
  go_enter Tryd.func25, Tryd.ntmps25
  go_wp2_with fail
  have BX := below_two W (.cells #[.pointer (some ⟨sb, 0, none⟩)] 85) (.cells #[.int .i64 9, .int .i64 (d : Int), .int .i64 src, .int .i64 rc, .int .i64 (n : Int), .int .i64 tt, iv, xv, .int .i64 (i : Int), v] 73)
  have hsX := Nat.lt_of_lt_of_le hsb BX.size
  have hoX := Nat.lt_of_lt_of_le o4 BX.size
  rw [← BX.cell hsb] at c5
  rw [← BX.cell o4] at o6
  have x0 := ((VarAt.new W [.pointer (some ⟨sb, 0, none⟩)] 85).past (.cells #[.int .i64 9, .int .i64 (d : Int), .int .i64 src, .int .i64 rc, .int .i64 (n : Int), .int .i64 tt, iv, xv, .int .i64 (i : Int), v] 73)).cell 0 (v := .pointer (some ⟨sb, 0, none⟩)) rfl
  have x8 := (VarAt.new (W.alloc (.cells #[.pointer (some ⟨sb, 0, none⟩)] 85)) [.int .i64 9, .int .i64 (d : Int), .int .i64 src, .int .i64 rc, .int .i64 (n : Int), .int .i64 tt, iv, xv, .int .i64 (i : Int), v] 73).cell 8 (v := .int .i64 (i : Int)) rfl
  simp only [World.size_alloc] at x8
  have hXs : ((W.alloc (.cells #[.pointer (some ⟨sb, 0, none⟩)] 85)).alloc (.cells #[.int .i64 9, .int .i64 (d : Int), .int .i64 src, .int .i64 rc, .int .i64 (n : Int), .int .i64 tt, iv, xv, .int .i64 (i : Int), v] 73)).heap.size = W.heap.size + 2 := by simp
  generalize hX : (W.alloc (.cells #[.pointer (some ⟨sb, 0, none⟩)] 85)).alloc (.cells #[.int .i64 9, .int .i64 (d : Int), .int .i64 src, .int .i64 rc, .int .i64 (n : Int), .int .i64 tt, iv, xv, .int .i64 (i : Int), v] 73) = X at *
  clear hX BX
  have q2 : W.heap.size < X.heap.size := by omega
  have q3 : W.heap.size + 1 < X.heap.size := by omega
  go_region_held3 (fun w' => w'.cell? ⟨W.heap.size, 0, none⟩ = some (.pointer (some ⟨sb, 0, none⟩)) ∧ w'.cell? ⟨W.heap.size + 1, 8, none⟩ = some (.int .i64 (i : Int)) ∧ w'.cell? ⟨sb, 5, none⟩ = some (.slice (some ⟨ob, ooff, none⟩) c.threads.length oc) ∧ w'.cell? ⟨ob, ooff + i, none⟩ = some (.slice (some ⟨B i, 0, none⟩) rl cp)) (go_keep) (fail)
  rename_i hHeld
  clear hHeld
  generalize hY : (X.alloc (.cells #[.slice (some ⟨B i, 0, none⟩) rl cp] 27)).drew = Y at *
  clear hY q2 q3 x0 x8 hoX hsX c5 o6 o4 hXs
  obtain ⟨y0, y30, y31, y32, y33, y34, y35, y36, y37, y38, y39, y4⟩ := cells_of D.out
  have r2 := D.out.b2.lt
  have r3 := D.out.b3.lt
  have r4 := D.out.b4.lt
  simp only at y30 y31 y32 y33 y34 y35 y36 y37 y38 y39
  go_wp2_with fail
  have DD := D.out.drew
  have fin := C.out _ DD.sol
  rw [shl_eq n hn64] at fin
  replace fin := hid fin
  replace DD := hid DD
  clear C D
  go_region_held3 (fun w' => w'.cell? ⟨W.heap.size, 0, none⟩ = some (.pointer (some ⟨sb, 0, none⟩)) ∧ w'.cell? ⟨W.heap.size + 1, 0, none⟩ = some (.int .i64 9) ∧ w'.cell? ⟨W.heap.size + 1, 1, none⟩ = some (.int .i64 (d : Int)) ∧ w'.cell? ⟨W.heap.size + 1, 2, none⟩ = some (.int .i64 src) ∧ w'.cell? ⟨W.heap.size + 1, 3, none⟩ = some (.int .i64 rc) ∧ w'.cell? ⟨W.heap.size + 1, 4, none⟩ = some (.int .i64 (n : Int)) ∧ w'.cell? ⟨W.heap.size + 1, 5, none⟩ = some (.int .i64 tt) ∧ w'.cell? ⟨W.heap.size + 1, 6, none⟩ = some (iv) ∧ w'.cell? ⟨W.heap.size + 1, 7, none⟩ = some (xv) ∧ w'.cell? ⟨W.heap.size + 1, 8, none⟩ = some (.int .i64 (i : Int)) ∧ w'.cell? ⟨W.heap.size + 1, 9, none⟩ = some (v) ∧ w'.cell? ⟨W.heap.size + 2, 0, none⟩ = some (.slice (some ⟨B i, 0, none⟩) rl cp)) (first | go_keep | exact cells_of DD.out | exact cells_of D2.out) ((go_at_call 40; with_reducible refine Calls.mono fin.out ?_; rintro e W2 ⟨rfl, h1, h2⟩; have D2 := hid (DD.out.brought hsb h1 h2)))
  rename_i D2 hHeld
  clear hHeld
  go_wp2_with fail
  go_end0
  exact ⟨rfl, _, D2.out.sol, G.out, D2.out.tch⟩

set_option maxRecDepth 100000 in
set_option maxHeartbeats 2000000 in
theorem do1 {W : World} {sb base top : Nat} {c : Cd} {v0 v1 v2 : Value} {g : Bool} {R : List (List Nat)} {V : Nat → Value} {B : Nat → Nat} {t : Bd} {s : Stp} (h : Fed W sb base top c v0 v1 v2 g R V B t s) (hop : s.x.op = 1) :
    Calls Tryd.prog 25 #[.pointer (some ⟨sb, 0, none⟩), .agg s.cells.toArray] W fun e W' => e = .returned (.tuple #[]) ∧ ∃ R', Sol W' sb base top c v0 v1 v2 (g || decide (R' ≠ R)) R' V B ∧ Grew c s.i t s.x R R' ∧ Touch (Own base top sb) W W' := by
  obtain ⟨j, hx⟩ := h.co
  have F := ins_facts h.good h.th hx
  have hti := h.ti
  have hnm := h.nums
  obtain ⟨hul, hu1⟩ := h.uses
  have hus := h.us
  have hU := h.low.allU h.good
  obtain ⟨d, hd, hdl⟩ := F.d (hasD_of (by simp [hop]))
  have hrow : d < (R.getD s.i []).length := by rw [row_at h.low, shape_slots c h.th]; exact hdl
  have htg : meansL (slotOf t s.x) = true := by have := h.tg; rw [tgtM, if_pos (hasD_of (by simp [hop]))] at this; exact this
  have M := fun X (hX : Sol X sb base top c v0 v1 v2 g R V B) (hn : NumsM X (max top (sb + 1)) W.heap.size s.v s.l) => meant_any sb base top (max top (sb + 1)) W.heap.size c v0 v1 v2 g R V B s X hX hU hti hn hul hu1
  have hmU := meant_lt hU s.i s.l
  have G := grew_bring (c := c) (i := s.i) (b := t) (x := s.x) (m := meant R s.i s.l) hrow (fun T _ hC hl => by
    have := hC.o1 hop htg
    rw [hd, Int.toNat_natCast, ← hus] at this
    exact (meant_mono hl _ _).trans this) (fun hS => ⟨fun a m => by rw [hd, Int.toNat_natCast, ← hus]; exact hS, fun a => by omega, fun a => by omega, fun a => by omega, fun a => by omega, fun a => by omega⟩)
  have C := fun X h => bringS_any (sb := sb) (base := base) (top := top) (c := c) (v0 := v0) (v1 := v1) (v2 := v2) (g := g) (V := V) (B := B) s.i d (meant R s.i s.l) X h hU hrow hmU
  generalize hmm : meant R s.i s.l = mm at *
  replace hmm := hid hmm
  have c5 := h.sol.box.cell 5 (v := v0) rfl
  obtain ⟨oa, oc, e0, ho⟩ := h.sol.sets.o0
  obtain ⟨ob, ooff, e1, o2, o3, o4, o5, o6⟩ := ho s.i hti
  subst e1
  obtain ⟨cp, k1, k2, k3, k4, k5⟩ := h.sol.sets.at hrow
  rw [k1] at o6
  have hsb := h.sol.box.lt
  have Sl := hid h.sol
  obtain ⟨⟨op, dst, src, rc, nn, tt, its, iv, idx, xv⟩, i, l, v⟩ := s
  simp only at *
  subst hop hd
  clear h hx F htg ho
  subst e0
  generalize hrl : (R.getD i []).length = rl at *
  have D := DoW.start (row := .slice (some ⟨B i, 0, none⟩) rl cp) (s := ⟨⟨1, (d : Int), src, rc, nn, tt, its, iv, idx, xv⟩, i, l, v⟩) Sl.out hnm
  simp only [Stp.cells] at D M ⊢
  replace D := hid D
  replace C := hid C
  replace M := hid M
  replace G := hid G
  replace hU := hid hU
  replace hrl := hid hrl
  clear k1 k2 k3 k4 k5 o2 o3 o5
  go_enter Tryd.func25, Tryd.ntmps25
  go_wp2_with fail
  have BX := below_two W (.cells #[.pointer (some ⟨sb, 0, none⟩)] 85) (.cells #[.int .i64 1, .int .i64 (d : Int), .int .i64 src, .int .i64 rc, .int .i64 nn, .int .i64 tt, iv, xv, .int .i64 (i : Int), v] 73)
  have hsX := Nat.lt_of_lt_of_le hsb BX.size
  have hoX := Nat.lt_of_lt_of_le o4 BX.size
  rw [← BX.cell hsb] at c5
  rw [← BX.cell o4] at o6
  have x0 := ((VarAt.new W [.pointer (some ⟨sb, 0, none⟩)] 85).past (.cells #[.int .i64 1, .int .i64 (d : Int), .int .i64 src, .int .i64 rc, .int .i64 nn, .int .i64 tt, iv, xv, .int .i64 (i : Int), v] 73)).cell 0 (v := .pointer (some ⟨sb, 0, none⟩)) rfl
  have x8 := (VarAt.new (W.alloc (.cells #[.pointer (some ⟨sb, 0, none⟩)] 85)) [.int .i64 1, .int .i64 (d : Int), .int .i64 src, .int .i64 rc, .int .i64 nn, .int .i64 tt, iv, xv, .int .i64 (i : Int), v] 73).cell 8 (v := .int .i64 (i : Int)) rfl
  simp only [World.size_alloc] at x8
  have hXs : ((W.alloc (.cells #[.pointer (some ⟨sb, 0, none⟩)] 85)).alloc (.cells #[.int .i64 1, .int .i64 (d : Int), .int .i64 src, .int .i64 rc, .int .i64 nn, .int .i64 tt, iv, xv, .int .i64 (i : Int), v] 73)).heap.size = W.heap.size + 2 := by simp
  generalize hX : (W.alloc (.cells #[.pointer (some ⟨sb, 0, none⟩)] 85)).alloc (.cells #[.int .i64 1, .int .i64 (d : Int), .int .i64 src, .int .i64 rc, .int .i64 nn, .int .i64 tt, iv, xv, .int .i64 (i : Int), v] 73) = X at *
  clear hX BX
  have q2 : W.heap.size < X.heap.size := by omega
  have q3 : W.heap.size + 1 < X.heap.size := by omega
  go_region_held3 (fun w' => w'.cell? ⟨W.heap.size, 0, none⟩ = some (.pointer (some ⟨sb, 0, none⟩)) ∧ w'.cell? ⟨W.heap.size + 1, 8, none⟩ = some (.int .i64 (i : Int)) ∧ w'.cell? ⟨sb, 5, none⟩ = some (.slice (some ⟨ob, ooff, none⟩) c.threads.length oc) ∧ w'.cell? ⟨ob, ooff + i, none⟩ = some (.slice (some ⟨B i, 0, none⟩) rl cp)) (go_keep) (fail)
  rename_i hHeld
  clear hHeld
  generalize hY : (X.alloc (.cells #[.slice (some ⟨B i, 0, none⟩) rl cp] 27)).drew = Y at *
  clear hY q2 q3 x0 x8 hoX hsX c5 o6 o4 hXs
  obtain ⟨y0, y30, y31, y32, y33, y34, y35, y36, y37, y38, y39, y4⟩ := cells_of D.out
  have r2 := D.out.b2.lt
  have r3 := D.out.b3.lt
  have r4 := D.out.b4.lt
  simp only at y30 y31 y32 y33 y34 y35 y36 y37 y38 y39
  go_wp2_with fail
  have DD := hid D.out.drew
  clear D
  go_region_held3 (fun w' => w'.cell? ⟨W.heap.size, 0, none⟩ = some (.pointer (some ⟨sb, 0, none⟩)) ∧ w'.cell? ⟨W.heap.size + 1, 0, none⟩ = some (.int .i64 1) ∧ w'.cell? ⟨W.heap.size + 1, 1, none⟩ = some (.int .i64 (d : Int)) ∧ w'.cell? ⟨W.heap.size + 1, 2, none⟩ = some (.int .i64 src) ∧ w'.cell? ⟨W.heap.size + 1, 3, none⟩ = some (.int .i64 rc) ∧ w'.cell? ⟨W.heap.size + 1, 4, none⟩ = some (.int .i64 nn) ∧ w'.cell? ⟨W.heap.size + 1, 5, none⟩ = some (.int .i64 tt) ∧ w'.cell? ⟨W.heap.size + 1, 6, none⟩ = some (iv) ∧ w'.cell? ⟨W.heap.size + 1, 7, none⟩ = some (xv) ∧ w'.cell? ⟨W.heap.size + 1, 8, none⟩ = some (.int .i64 (i : Int)) ∧ w'.cell? ⟨W.heap.size + 1, 9, none⟩ = some (v) ∧ w'.cell? ⟨W.heap.size + 2, 0, none⟩ = some (.slice (some ⟨B i, 0, none⟩) rl cp)) (first | go_keep | exact cells_of D2.out | exact cells_of D1.out | exact cells_of DD.out) ((first | (go_at_call 41; with_reducible refine Calls.mono (M.out _ DD.out.sol DD.out.nums) ?_; rintro e W1 ⟨rfl, hb⟩; have D1 := hid (DD.out.kept hb)) | (go_at_call 40; with_reducible refine Calls.mono (C.out _ D1.out.sol) ?_; rintro e W2 ⟨rfl, h1, h2⟩; have D2 := hid (D1.out.brought hsb h1 h2))))
  rename_i D2 hHeld
  clear hHeld
  go_wp2_with fail
  go_end0
  exact ⟨rfl, _, D2.out.sol, G.out, D2.out.tch⟩

set_option maxRecDepth 100000 in
set_option maxHeartbeats 2000000 in
theorem do2 {W : World} {sb base top : Nat} {c : Cd} {v0 v1 v2 : Value} {g : Bool} {R : List (List Nat)} {V : Nat → Value} {B : Nat → Nat} {t : Bd} {s : Stp} (h : Fed W sb base top c v0 v1 v2 g R V B t s) (hop : s.x.op = 2) :
    Calls Tryd.prog 25 #[.pointer (some ⟨sb, 0, none⟩), .agg s.cells.toArray] W fun e W' => e = .returned (.tuple #[]) ∧ ∃ R', Sol W' sb base top c v0 v1 v2 (g || decide (R' ≠ R)) R' V B ∧ Grew c s.i t s.x R R' ∧ Touch (Own base top sb) W W' := by
  obtain ⟨j, hx⟩ := h.co
  have F := ins_facts h.good h.th hx
  have hti := h.ti
  have hnm := h.nums
  obtain ⟨hul, hu1⟩ := h.uses
  have hus := h.us
  have hU := h.low.allU h.good
  obtain ⟨d, hd, hdl⟩ := F.d (hasD_of (by simp [hop]))
  have hrow : d < (R.getD s.i []).length := by rw [row_at h.low, shape_slots c h.th]; exact hdl
  have htg : meansL (slotOf t s.x) = true := by have := h.tg; rw [tgtM, if_pos (hasD_of (by simp [hop]))] at this; exact this
  obtain ⟨n, hn, hnl⟩ := F.g (by simp [hop])
  have hrg : n < (R.getD c.threads.length []).length := by rw [row_at h.low, shape_globs]; exact hnl
  obtain ⟨gc, j1, j2, j3, j4, j5⟩ := h.sol.sets.at hrg
  have hv1 := h.sol.sets.one.trans j1
  have G := grew_bring (c := c) (i := s.i) (b := t) (x := s.x) (m := gR R c.threads.length n) hrow (fun T _ hC hl => by
    have := hC.o2 hop htg
    rw [hd, hn, Int.toNat_natCast, Int.toNat_natCast] at this
    exact (hl _ _).trans this) (fun hS => ⟨fun a => by omega, fun a m => by rw [hd, hn, Int.toNat_natCast, Int.toNat_natCast]; exact hS, fun a => by omega, fun a => by omega, fun a => by omega, fun a => by omega⟩)
  have EG := hid (fun (X : World) (R' : List (List Nat)) (g' : Bool) (hX : Sol X sb base top c v0 v1 v2 g' R' V B) (he : gR R' c.threads.length n = gR R c.threads.length n) (hl : (R'.getD c.threads.length []).length = (R.getD c.threads.length []).length) => (by
    obtain ⟨_, _, _, _, _, k⟩ := hX.sets.at (r := c.threads.length) (j := n) (by rw [hl]; exact hrg)
    rw [he] at k
    exact ⟨hX.box.cell 6 (by rw [← hv1]; rfl), k⟩ : X.cell? ⟨sb, 6, none⟩ = some (.slice (some ⟨B c.threads.length, 0, none⟩) (R.getD c.threads.length []).length gc) ∧ X.cell? ⟨B c.threads.length, n, none⟩ = some (.int .u64 ((gR R c.threads.length n : Nat) : Int))))
  have hb := hid (fun m => (⟨by unfold bringR; rw [gR_set hrow, if_neg (by rintro ⟨a, _⟩; omega)], by unfold bringR; exact row_set_len _ _ _ _ _⟩ : gR (bringR R s.i d m) c.threads.length n = gR R c.threads.length n ∧ ((bringR R s.i d m).getD c.threads.length []).length = (R.getD c.threads.length []).length))
  have C := fun X h => bringS_any (sb := sb) (base := base) (top := top) (c := c) (v0 := v0) (v1 := v1) (v2 := v2) (g := g) (V := V) (B := B) s.i d (gR R c.threads.length n) X h hU hrow (hU _ _)
  generalize hmm : gR R c.threads.length n = mm at *
  generalize hgl : (R.getD c.threads.length []).length = gl at *
  replace hmm := hid hmm
  replace hgl := hid hgl
  clear j1 j2 j3 j4 j5 hv1
  have c5 := h.sol.box.cell 5 (v := v0) rfl
  obtain ⟨oa, oc, e0, ho⟩ := h.sol.sets.o0
  obtain ⟨ob, ooff, e1, o2, o3, o4, o5, o6⟩ := ho s.i hti
  subst e1
  obtain ⟨cp, k1, k2, k3, k4, k5⟩ := h.sol.sets.at hrow
  rw [k1] at o6
  have hsb := h.sol.box.lt
  have Sl := hid h.sol
  obtain ⟨⟨op, dst, src, rc, nn, tt, its, iv, idx, xv⟩, i, l, v⟩ := s
  simp only at *
  subst hop hd hn
  clear h hx F htg ho
  subst e0
  generalize hrl : (R.getD i []).length = rl at *
  have D := DoW.start (row := .slice (some ⟨B i, 0, none⟩) rl cp) (s := ⟨⟨2, (d : Int), src, rc, (n : Int), tt, its, iv, idx, xv⟩, i, l, v⟩) Sl.out hnm
  simp only [Stp.cells] at D ⊢
  replace D := hid D
  replace C := hid C
  replace G := hid G
  replace hU := hid hU
  replace hrl := hid hrl
  clear k1 k2 k3 k4 k5 o2 o3 o5
  go_enter Tryd.func25, Tryd.ntmps25
  go_wp2_with fail
  have BX := below_two W (.cells #[.pointer (some ⟨sb, 0, none⟩)] 85) (.cells #[.int .i64 2, .int .i64 (d : Int), .int .i64 src, .int .i64 rc, .int .i64 (n : Int), .int .i64 tt, iv, xv, .int .i64 (i : Int), v] 73)
  have hsX := Nat.lt_of_lt_of_le hsb BX.size
  have hoX := Nat.lt_of_lt_of_le o4 BX.size
  rw [← BX.cell hsb] at c5
  rw [← BX.cell o4] at o6
  have x0 := ((VarAt.new W [.pointer (some ⟨sb, 0, none⟩)] 85).past (.cells #[.int .i64 2, .int .i64 (d : Int), .int .i64 src, .int .i64 rc, .int .i64 (n : Int), .int .i64 tt, iv, xv, .int .i64 (i : Int), v] 73)).cell 0 (v := .pointer (some ⟨sb, 0, none⟩)) rfl
  have x8 := (VarAt.new (W.alloc (.cells #[.pointer (some ⟨sb, 0, none⟩)] 85)) [.int .i64 2, .int .i64 (d : Int), .int .i64 src, .int .i64 rc, .int .i64 (n : Int), .int .i64 tt, iv, xv, .int .i64 (i : Int), v] 73).cell 8 (v := .int .i64 (i : Int)) rfl
  simp only [World.size_alloc] at x8
  have hXs : ((W.alloc (.cells #[.pointer (some ⟨sb, 0, none⟩)] 85)).alloc (.cells #[.int .i64 2, .int .i64 (d : Int), .int .i64 src, .int .i64 rc, .int .i64 (n : Int), .int .i64 tt, iv, xv, .int .i64 (i : Int), v] 73)).heap.size = W.heap.size + 2 := by simp
  generalize hX : (W.alloc (.cells #[.pointer (some ⟨sb, 0, none⟩)] 85)).alloc (.cells #[.int .i64 2, .int .i64 (d : Int), .int .i64 src, .int .i64 rc, .int .i64 (n : Int), .int .i64 tt, iv, xv, .int .i64 (i : Int), v] 73) = X at *
  clear hX BX
  have q2 : W.heap.size < X.heap.size := by omega
  have q3 : W.heap.size + 1 < X.heap.size := by omega
  go_region_held3 (fun w' => w'.cell? ⟨W.heap.size, 0, none⟩ = some (.pointer (some ⟨sb, 0, none⟩)) ∧ w'.cell? ⟨W.heap.size + 1, 8, none⟩ = some (.int .i64 (i : Int)) ∧ w'.cell? ⟨sb, 5, none⟩ = some (.slice (some ⟨ob, ooff, none⟩) c.threads.length oc) ∧ w'.cell? ⟨ob, ooff + i, none⟩ = some (.slice (some ⟨B i, 0, none⟩) rl cp)) (go_keep) (fail)
  rename_i hHeld
  clear hHeld
  generalize hY : (X.alloc (.cells #[.slice (some ⟨B i, 0, none⟩) rl cp] 27)).drew = Y at *
  clear hY q2 q3 x0 x8 hoX hsX c5 o6 o4 hXs
  obtain ⟨y0, y30, y31, y32, y33, y34, y35, y36, y37, y38, y39, y4⟩ := cells_of D.out
  have r2 := D.out.b2.lt
  have r3 := D.out.b3.lt
  have r4 := D.out.b4.lt
  simp only at y30 y31 y32 y33 y34 y35 y36 y37 y38 y39
  go_wp2_with fail
  have DD := hid D.out.drew
  have E1 := hid (EG.out _ _ _ DD.out.sol hmm.out hgl.out)
  clear D
  go_region_held3 (fun w' => w'.cell? ⟨sb, 6, none⟩ = some (.slice (some ⟨B c.threads.length, 0, none⟩) gl gc) ∧ w'.cell? ⟨B c.threads.length, n, none⟩ = some (.int .u64 (mm : Int)) ∧ w'.cell? ⟨W.heap.size, 0, none⟩ = some (.pointer (some ⟨sb, 0, none⟩)) ∧ w'.cell? ⟨W.heap.size + 1, 0, none⟩ = some (.int .i64 2) ∧ w'.cell? ⟨W.heap.size + 1, 1, none⟩ = some (.int .i64 (d : Int)) ∧ w'.cell? ⟨W.heap.size + 1, 2, none⟩ = some (.int .i64 src) ∧ w'.cell? ⟨W.heap.size + 1, 3, none⟩ = some (.int .i64 rc) ∧ w'.cell? ⟨W.heap.size + 1, 4, none⟩ = some (.int .i64 (n : Int)) ∧ w'.cell? ⟨W.heap.size + 1, 5, none⟩ = some (.int .i64 tt) ∧ w'.cell? ⟨W.heap.size + 1, 6, none⟩ = some (iv) ∧ w'.cell? ⟨W.heap.size + 1, 7, none⟩ = some (xv) ∧ w'.cell? ⟨W.heap.size + 1, 8, none⟩ = some (.int .i64 (i : Int)) ∧ w'.cell? ⟨W.heap.size + 1, 9, none⟩ = some (v) ∧ w'.cell? ⟨W.heap.size + 2, 0, none⟩ = some (.slice (some ⟨B i, 0, none⟩) rl cp)) (first | exact ⟨E2.out.1, E2.out.2, cells_of D2.out⟩ | exact ⟨E1.out.1, E1.out.2, cells_of DD.out⟩ | go_keep) ((go_at_call 40; with_reducible refine Calls.mono (C.out _ DD.out.sol) ?_; rintro e W2 ⟨rfl, h1, h2⟩; have E2 := hid (EG.out _ _ _ h1 (hb.out _).1 (hb.out _).2); have D2 := hid (DD.out.brought hsb h1 h2)))
  rename_i D2 hHeld
  clear hHeld
  go_wp2_with fail
  go_end0
  exact ⟨rfl, _, D2.out.sol, G.out, D2.out.tch⟩

set_option maxRecDepth 100000 in
set_option maxHeartbeats 2000000 in
theorem do5 {W : World} {sb base top : Nat} {c : Cd} {v0 v1 v2 : Value} {g : Bool} {R : List (List Nat)} {V : Nat → Value} {B : Nat → Nat} {t : Bd} {s : Stp} (h : Fed W sb base top c v0 v1 v2 g R V B t s) (hop : s.x.op = 5) :
    Calls Tryd.prog 25 #[.pointer (some ⟨sb, 0, none⟩), .agg s.cells.toArray] W fun e W' => e = .returned (.tuple #[]) ∧ ∃ R', Sol W' sb base top c v0 v1 v2 (g || decide (R' ≠ R)) R' V B ∧ Grew c s.i t s.x R R' ∧ Touch (Own base top sb) W W' := by
  obtain ⟨j, hx⟩ := h.co
  have F := ins_facts h.good h.th hx
  have hti := h.ti
  have hnm := h.nums
  obtain ⟨hul, hu1⟩ := h.uses
  have hus := h.us
  have hU := h.low.allU h.good
  obtain ⟨n, hn, hnl⟩ := F.g (by simp [hop])
  have hrow : n < (R.getD c.threads.length []).length := by rw [row_at h.low, shape_globs]; exact hnl
  obtain ⟨gc, j1, j2, j3, j4, j5⟩ := h.sol.sets.at hrow
  have hv1 := h.sol.sets.one.trans j1
  have htg : meansL (globAt c s.x) = true := by have := h.tg; rw [tgtM, hop] at this; exact this
  have M := fun X (hX : Sol X sb base top c v0 v1 v2 g R V B) (hn : NumsM X (max top (sb + 1)) W.heap.size s.v s.l) => meant_any sb base top (max top (sb + 1)) W.heap.size c v0 v1 v2 g R V B s X hX hU hti hn hul hu1
  have hmU := meant_lt hU s.i s.l
  have G := grew_bring (c := c) (i := s.i) (b := t) (x := s.x) (m := meant R s.i s.l) hrow (fun T _ hC hl => by
    have := hC.o5 hop htg
    rw [hn, Int.toNat_natCast, ← hus] at this
    exact (meant_mono hl _ _).trans this) (fun hS => ⟨fun a => by omega, fun a => by omega, fun a => by omega, fun a m => by rw [hn, Int.toNat_natCast, ← hus]; exact hS, fun a => by omega, fun a => by omega⟩)
  have EG := hid (fun (X : World) (R' : List (List Nat)) (g' : Bool) (hX : Sol X sb base top c v0 v1 v2 g' R' V B) => (hX.box.cell 6 (by rw [← hv1]; rfl) : X.cell? ⟨sb, 6, none⟩ = some (.slice (some ⟨B c.threads.length, 0, none⟩) (R.getD c.threads.length []).length gc)))
  have C := fun X h => bringS_any (sb := sb) (base := base) (top := top) (c := c) (v0 := v0) (v1 := v1) (v2 := v2) (g := g) (V := V) (B := B) c.threads.length n (meant R s.i s.l) X h hU hrow hmU
  generalize hmm : meant R s.i s.l = mm at *
  generalize hgl : (R.getD c.threads.length []).length = gl at *
  replace hmm := hid hmm
  replace hgl := hid hgl
  clear j1 j2 j3 j4 j5 hv1
  have c5 := h.sol.box.cell 5 (v := v0) rfl
  obtain ⟨oa, oc, e0, ho⟩ := h.sol.sets.o0
  obtain ⟨ob, ooff, e1, o2, o3, o4, o5, o6⟩ := ho s.i hti
  subst e1
  obtain ⟨ra, cp, k1⟩ := h.sol.sets.form (r := s.i) (by rw [h.sol.sets.len]; omega)
  rw [k1] at o6
  have hsb := h.sol.box.lt
  have Sl := hid h.sol
  obtain ⟨⟨op, dst, src, rc, nn, tt, its, iv, idx, xv⟩, i, l, v⟩ := s
  simp only at *
  subst hop hn
  clear h hx F htg ho
  subst e0
  generalize hrl : (R.getD i []).length = rl at *
  have D := DoW.start (row := .slice ra rl cp) (s := ⟨⟨5, dst, src, rc, (n : Int), tt, its, iv, idx, xv⟩, i, l, v⟩) Sl.out hnm
  simp only [Stp.cells] at D M ⊢
  replace D := hid D
  replace C := hid C
  replace M := hid M
  replace G := hid G
  replace hU := hid hU
  replace hrl := hid hrl
  clear k1 o2 o3 o5
  go_enter Tryd.func25, Tryd.ntmps25
  go_wp2_with fail
  have BX := below_two W (.cells #[.pointer (some ⟨sb, 0, none⟩)] 85) (.cells #[.int .i64 5, .int .i64 dst, .int .i64 src, .int .i64 rc, .int .i64 (n : Int), .int .i64 tt, iv, xv, .int .i64 (i : Int), v] 73)
  have hsX := Nat.lt_of_lt_of_le hsb BX.size
  have hoX := Nat.lt_of_lt_of_le o4 BX.size
  rw [← BX.cell hsb] at c5
  rw [← BX.cell o4] at o6
  have x0 := ((VarAt.new W [.pointer (some ⟨sb, 0, none⟩)] 85).past (.cells #[.int .i64 5, .int .i64 dst, .int .i64 src, .int .i64 rc, .int .i64 (n : Int), .int .i64 tt, iv, xv, .int .i64 (i : Int), v] 73)).cell 0 (v := .pointer (some ⟨sb, 0, none⟩)) rfl
  have x8 := (VarAt.new (W.alloc (.cells #[.pointer (some ⟨sb, 0, none⟩)] 85)) [.int .i64 5, .int .i64 dst, .int .i64 src, .int .i64 rc, .int .i64 (n : Int), .int .i64 tt, iv, xv, .int .i64 (i : Int), v] 73).cell 8 (v := .int .i64 (i : Int)) rfl
  simp only [World.size_alloc] at x8
  have hXs : ((W.alloc (.cells #[.pointer (some ⟨sb, 0, none⟩)] 85)).alloc (.cells #[.int .i64 5, .int .i64 dst, .int .i64 src, .int .i64 rc, .int .i64 (n : Int), .int .i64 tt, iv, xv, .int .i64 (i : Int), v] 73)).heap.size = W.heap.size + 2 := by simp
  generalize hX : (W.alloc (.cells #[.pointer (some ⟨sb, 0, none⟩)] 85)).alloc (.cells #[.int .i64 5, .int .i64 dst, .int .i64 src, .int .i64 rc, .int .i64 (n : Int), .int .i64 tt, iv, xv, .int .i64 (i : Int), v] 73) = X at *
  clear hX BX
  have q2 : W.heap.size < X.heap.size := by omega
  have q3 : W.heap.size + 1 < X.heap.size := by omega
  go_region_held3 (fun w' => w'.cell? ⟨W.heap.size, 0, none⟩ = some (.pointer (some ⟨sb, 0, none⟩)) ∧ w'.cell? ⟨W.heap.size + 1, 8, none⟩ = some (.int .i64 (i : Int)) ∧ w'.cell? ⟨sb, 5, none⟩ = some (.slice (some ⟨ob, ooff, none⟩) c.threads.length oc) ∧ w'.cell? ⟨ob, ooff + i, none⟩ = some (.slice ra rl cp)) (go_keep) (fail)
  rename_i hHeld
  clear hHeld
  generalize hY : (X.alloc (.cells #[.slice ra rl cp] 27)).drew = Y at *
  clear hY q2 q3 x0 x8 hoX hsX c5 o6 o4 hXs
  obtain ⟨y0, y30, y31, y32, y33, y34, y35, y36, y37, y38, y39, y4⟩ := cells_of D.out
  have r2 := D.out.b2.lt
  have r3 := D.out.b3.lt
  have r4 := D.out.b4.lt
  simp only at y30 y31 y32 y33 y34 y35 y36 y37 y38 y39
  go_wp2_with fail
  have DD := hid D.out.drew
  have E1 := hid (EG.out _ _ _ DD.out.sol)
  clear D
  go_region_held3 (fun w' => w'.cell? ⟨sb, 6, none⟩ = some (.slice (some ⟨B c.threads.length, 0, none⟩) gl gc) ∧ w'.cell? ⟨W.heap.size, 0, none⟩ = some (.pointer (some ⟨sb, 0, none⟩)) ∧ w'.cell? ⟨W.heap.size + 1, 0, none⟩ = some (.int .i64 5) ∧ w'.cell? ⟨W.heap.size + 1, 1, none⟩ = some (.int .i64 dst) ∧ w'.cell? ⟨W.heap.size + 1, 2, none⟩ = some (.int .i64 src) ∧ w'.cell? ⟨W.heap.size + 1, 3, none⟩ = some (.int .i64 rc) ∧ w'.cell? ⟨W.heap.size + 1, 4, none⟩ = some (.int .i64 (n : Int)) ∧ w'.cell? ⟨W.heap.size + 1, 5, none⟩ = some (.int .i64 tt) ∧ w'.cell? ⟨W.heap.size + 1, 6, none⟩ = some (iv) ∧ w'.cell? ⟨W.heap.size + 1, 7, none⟩ = some (xv) ∧ w'.cell? ⟨W.heap.size + 1, 8, none⟩ = some (.int .i64 (i : Int)) ∧ w'.cell? ⟨W.heap.size + 1, 9, none⟩ = some (v) ∧ w'.cell? ⟨W.heap.size + 2, 0, none⟩ = some (.slice ra rl cp)) (first | exact ⟨E2.out, cells_of D2.out⟩ | exact ⟨E3.out, cells_of D1.out⟩ | exact ⟨E1.out, cells_of DD.out⟩ | go_keep) ((first | (go_at_call 41; with_reducible refine Calls.mono (M.out _ DD.out.sol DD.out.nums) ?_; rintro e W1 ⟨rfl, hb⟩; have D1 := hid (DD.out.kept hb); have E3 := hid (EG.out _ _ _ D1.out.sol)) | (go_at_call 40; with_reducible refine Calls.mono (C.out _ D1.out.sol) ?_; rintro e W2 ⟨rfl, h1, h2⟩; have E2 := hid (EG.out _ _ _ h1); have D2 := hid (D1.out.brought hsb h1 h2))))
  rename_i D2 hHeld
  clear hHeld
  go_wp2_with fail
  go_end0
  exact ⟨rfl, _, D2.out.sol, G.out, D2.out.tch⟩

end Go.Proofs.YtdpbapoahfggeaaDoor
