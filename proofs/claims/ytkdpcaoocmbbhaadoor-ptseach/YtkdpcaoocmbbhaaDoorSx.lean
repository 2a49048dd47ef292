/- Sets in memory; the contracts of bring and meant. -/
import Derived.Test.YtkdpcaoocmbbhaaDoorEa
import Derived.Test.YtkdpcaoocmbbhaaDoorPf
import Derived.Deep.QuietTactic
import Derived.BigQuiet
namespace Go.Proofs.YtkdpcaoocmbbhaaDoor
open Go.ChangeShapes Go.WideShapes Go.ChangeAt Go.RowKit
set_option linter.unusedVariables false
set_option linter.unusedSimpArgs false

theorem VarAt.touch {T : Nat → Prop} {w w' : World} {b : Nat} {cs : List Value} {t : TypeId} (h : VarAt w b cs t) (k : Touch T w w') (hb : ¬ T b) : VarAt w' b cs t := (k.block b h.lt hb).trans h
theorem VarAt.cell {w : World} {b : Nat} {cs : List Value} {t : TypeId} (h : VarAt w b cs t) (j : Nat) {v : Value} (hj : cs[j]? = some v) : w.cell? ⟨b, j, none⟩ = some v := h.box.2 j v hj

def nV (n : Nat) : Value := .int .u64 (n : Int)
def cellsN (l : List Nat) : List Value := l.map nV
theorem cellsN_at {l : List Nat} {j : Nat} (h : j < l.length) : (cellsN l)[j]? = some (.int .u64 ((l.getD j 0 : Nat) : Int)) := by
  unfold cellsN
  simp [List.getD, h, nV]
theorem cellsN_set (l : List Nat) (j v : Nat) : (cellsN l).set j (.int .u64 (v : Int)) = cellsN (l.set j v) := by
  unfold cellsN
  rw [List.map_set]
  rfl
theorem cellsN_len (l : List Nat) : (cellsN l).length = l.length := by simp [cellsN]

/-- A row of sets: if it has any, in a block of its own. -/
def RowM (w : World) (v : Value) (b : Nat) (l : List Nat) : Prop :=
  ∃ a c, v = .slice a l.length c ∧ (l ≠ [] → a = some ⟨b, 0, none⟩ ∧ VarAt w b (cellsN l) 44)
/-- A row of rows. -/
def OutM (w : World) (base top : Nat) (v : Value) (n : Nat) (f : Nat → Value) (Bd : Nat → Prop) : Prop :=
  ∃ a cap, v = .slice a n cap ∧ ∀ i, i < n → ∃ b off, a = some ⟨b, off, none⟩ ∧ base ≤ b ∧ b < top ∧ b < w.heap.size ∧ ¬ Bd b ∧ w.cell? ⟨b, off + i, none⟩ = some (f i)
/-- The blocks in which sets lie. -/
def InR (R : List (List Nat)) (B : Nat → Nat) (b : Nat) : Prop := ∃ r, R.getD r [] ≠ [] ∧ b = B r
/-- Sets in memory. -/
structure SetsM (w : World) (base top nT nS : Nat) (v0 v1 v2 : Value) (R : List (List Nat)) (V : Nat → Value) (B : Nat → Nat) : Prop where
  len : R.length = nT + 1 + nS
  row : ∀ r l, R[r]? = some l → RowM w (V r) (B r) l
  one : v1 = V nT
  o0 : OutM w base top v0 nT V (InR R B)
  o2 : OutM w base top v2 nS (fun k => V (nT + 1 + k)) (InR R B)
  sep : ∀ r r', R.getD r [] ≠ [] → R.getD r' [] ≠ [] → B r = B r' → r = r'
  lo : ∀ r, R.getD r [] ≠ [] → base ≤ B r ∧ B r < top

theorem RowM.touch {T : Nat → Prop} {w w' : World} {v : Value} {b : Nat} {l : List Nat} (h : RowM w v b l) (k : Touch T w w') (hb : l ≠ [] → ¬ T b) : RowM w' v b l := by
  obtain ⟨a, c, e, h⟩ := h
  exact ⟨a, c, e, fun q => ⟨(h q).1, (h q).2.touch k (hb q)⟩⟩
theorem OutM.touch {T : Nat → Prop} {w w' : World} {base top : Nat} {v : Value} {n : Nat} {f : Nat → Value} {Bd Bd' : Nat → Prop} (h : OutM w base top v n f Bd) (k : Touch T w w') (hB : ∀ b, Bd' b → Bd b) (hT : ∀ b, base ≤ b → b < top → ¬ Bd b → ¬ T b) : OutM w' base top v n f Bd' := by
  obtain ⟨a, c, e, h⟩ := h
  refine ⟨a, c, e, fun i hi => ?_⟩
  obtain ⟨b, off, h1, h2, h3, h4, h5, h6⟩ := h i hi
  exact ⟨b, off, h1, h2, h3, Nat.lt_of_lt_of_le h4 k.size, fun q => h5 (hB b q), by rw [World.cell?_of_block (k.block b h4 (hT b h2 h3 h5))]; exact h6⟩
theorem getD_mem' {α : Type} {l : List α} {i : Nat} {x d : α} (h : l[i]? = some x) : l.getD i d = x := by simp [List.getD, h]
theorem SetsM.touch {T : Nat → Prop} {w w' : World} {base top nT nS : Nat} {v0 v1 v2 : Value} {R : List (List Nat)} {V : Nat → Value} {B : Nat → Nat} (h : SetsM w base top nT nS v0 v1 v2 R V B) (k : Touch T w w') (hT : ∀ b, base ≤ b → b < top → ¬ T b) : SetsM w' base top nT nS v0 v1 v2 R V B :=
  ⟨h.len, fun r l hr => (h.row r l hr).touch k (fun q => by
    have := h.lo r (by rw [getD_mem' hr]; exact q)
    exact hT _ this.1 this.2), h.one, h.o0.touch k (fun _ q => q) (fun b h1 h2 _ => hT b h1 h2), h.o2.touch k (fun _ q => q) (fun b h1 h2 _ => hT b h1 h2), h.sep, h.lo⟩
theorem SetsM.kept {w w' : World} {base top nT nS : Nat} {v0 v1 v2 : Value} {R : List (List Nat)} {V : Nat → Value} {B : Nat → Nat} (h : SetsM w base top nT nS v0 v1 v2 R V B) (k : Below w.heap.size w w') : SetsM w' base top nT nS v0 v1 v2 R V B :=
  h.touch (T := fun _ => False) (Touch.of_below k) (fun _ _ _ q => q)

theorem set_none (R : List (List Nat)) (r j v r' : Nat) : (setR R r j v).getD r' [] ≠ [] ↔ R.getD r' [] ≠ [] := by
  have := row_set_len R r j v r'
  rw [← List.length_pos_iff, ← List.length_pos_iff, this]
/-- One set put anew. -/
theorem SetsM.set {w w' : World} {base top nT nS : Nat} {v0 v1 v2 : Value} {R : List (List Nat)} {V : Nat → Value} {B : Nat → Nat} (h : SetsM w base top nT nS v0 v1 v2 R V B) (r j v : Nat) (hj : j < (R.getD r []).length)
    {T : Nat → Prop} (k : Touch T w w') (hT : ∀ b, base ≤ b → b < top → b ≠ B r → ¬ T b) (hv : VarAt w' (B r) (cellsN ((R.getD r []).set j v)) 44) : SetsM w' base top nT nS v0 v1 v2 (setR R r j v) V B := by
  have hne : R.getD r [] ≠ [] := fun q => by rw [q] at hj; simp at hj
  have hi : ∀ b, InR (setR R r j v) B b → InR R B b := fun b ⟨x, hx, e⟩ => ⟨x, (set_none R r j v x).1 hx, e⟩
  have hn : ∀ b, ¬ InR R B b → b ≠ B r := fun b q e => q ⟨r, hne, e⟩
  refine ⟨by rw [← h.len]; unfold setR; simp, fun r' l hr => ?_, h.one, h.o0.touch k hi (fun b h1 h2 h3 => hT b h1 h2 (hn b h3)), h.o2.touch k hi (fun b h1 h2 h3 => hT b h1 h2 (hn b h3)),
    fun a b ha hb => h.sep a b ((set_none R r j v a).1 ha) ((set_none R r j v b).1 hb), fun a ha => h.lo a ((set_none R r j v a).1 ha)⟩
  unfold setR at hr
  rw [List.getElem?_set] at hr
  by_cases e : r = r'
  · subst e
    rw [if_pos rfl] at hr
    split at hr
    · cases hr
      rename_i hlt
      obtain ⟨a, c, e1, e2⟩ := h.row r R[r] (by simp [hlt])
      have eR : R.getD r [] = R[r] := getD_mem' (by simp [hlt])
      rw [eR] at hv hne ⊢
      exact ⟨a, c, by rw [List.length_set]; exact e1, fun _ => ⟨(e2 hne).1, hv⟩⟩
    · cases hr
  · rw [if_neg e] at hr
    refine (h.row r' l hr).touch k (fun q => ?_)
    have q' : R.getD r' [] ≠ [] := by rw [getD_mem' hr]; exact q
    have := h.lo r' q'
    exact hT _ this.1 this.2 (fun x => e (h.sep r r' hne q' x.symm))

/-- A row's set, as a cell. -/
theorem SetsM.at {w : World} {base top nT nS : Nat} {v0 v1 v2 : Value} {R : List (List Nat)} {V : Nat → Value} {B : Nat → Nat} (h : SetsM w base top nT nS v0 v1 v2 R V B) {r j : Nat} (hj : j < (R.getD r []).length) :
    ∃ c, V r = .slice (some ⟨B r, 0, none⟩) (R.getD r []).length c ∧ VarAt w (B r) (cellsN (R.getD r [])) 44 ∧ base ≤ B r ∧ B r < top ∧ w.cell? ⟨B r, j, none⟩ = some (.int .u64 ((gR R r j : Nat) : Int)) := by
  have hne : R.getD r [] ≠ [] := fun q => by rw [q] at hj; simp at hj
  have hr : r < R.length := by
    by_cases q : r < R.length
    · exact q
    · simp [List.getD, List.getElem?_eq_none (Nat.le_of_not_lt q)] at hj
  have eR : R.getD r [] = R[r] := getD_mem' (by simp [hr])
  obtain ⟨a, c, e1, e2⟩ := h.row r R[r] (by simp [hr])
  rw [← eR] at e1 e2
  obtain ⟨ea, hv⟩ := e2 hne
  exact ⟨c, by rw [e1, ea], hv, (h.lo r hne).1, (h.lo r hne).2, hv.cell j (cellsN_at hj)⟩
theorem SetsM.form {w : World} {base top nT nS : Nat} {v0 v1 v2 : Value} {R : List (List Nat)} {V : Nat → Value} {B : Nat → Nat} (h : SetsM w base top nT nS v0 v1 v2 R V B) {r : Nat} (hr : r < R.length) : ∃ a c, V r = .slice a (R.getD r []).length c := by
  obtain ⟨a, c, e1, e2⟩ := h.row r R[r] (by simp [hr])
  have eR : R.getD r [] = R[r] := getD_mem' (by simp [hr])
  rw [← eR] at e1
  exact ⟨a, c, e1⟩

theorem or64 {a b : Nat} (ha : a < 2 ^ 64) (hb : b < 2 ^ 64) : bits .or .u64 (a : Int) (b : Int) = ((a ||| b : Nat) : Int) := u64_or_nat a b (by rw [← p64]; exact ha) (by rw [← p64]; exact hb)

theorem neqN (z u : Nat) : ((z : Int) != (u : Int)) = decide (z ≠ u) := by
  by_cases h : z = u
  · simp [h]
  · have : ¬ ((z : Int) = (u : Int)) := by omega
    simp [h, this]

set_option maxRecDepth 100000 in
set_option maxHeartbeats 1000000 in
theorem bring_any (sb b j m : Nat) (l : List Nat) (x0 x1 x2 x3 x4 v0 v1 v2 : Value) (g : Bool) (W : World) (hs : VarAt W sb [x0, x1, x2, x3, x4, v0, v1, v2, .bool g] 60) (hv : VarAt W b (cellsN l) 44) (hj : j < l.length) (hne : sb ≠ b) (hm : m < 2 ^ 64) (hl : l.getD j 0 < 2 ^ 64) :
    Calls Tryd.prog 40 #[.pointer (some ⟨sb, 0, none⟩), .int .u64 (m : Int), .pointer (some ⟨b, j, none⟩)] W fun e W' => e = .returned (.tuple #[]) ∧
      VarAt W' sb [x0, x1, x2, x3, x4, v0, v1, v2, .bool (g || decide (l.getD j 0 ||| m ≠ l.getD j 0))] 60 ∧ VarAt W' b (cellsN (l.set j (l.getD j 0 ||| m))) 44 ∧ Touch (fun i => i = sb ∨ i = b) W W' := by
  have c8 := hs.cell 8 (v := .bool g) rfl
  have d8 := hs.frozen 8
  have cj := hv.cell j (cellsN_at hj)
  have dj := hv.frozen j
  have e1 := or64 hl hm
  have e2 : ∀ q : Bool, q = (g || decide (l.getD j 0 ||| m ≠ l.getD j 0)) → (VarAt ((W.setCell ⟨b, j, none⟩ (.int .u64 ((l.getD j 0 ||| m : Nat) : Int))).setCell ⟨sb, 8, none⟩ (.bool q)) sb [x0, x1, x2, x3, x4, v0, v1, v2, .bool (g || decide (l.getD j 0 ||| m ≠ l.getD j 0))] 60 ∧
      VarAt ((W.setCell ⟨b, j, none⟩ (.int .u64 ((l.getD j 0 ||| m : Nat) : Int))).setCell ⟨sb, 8, none⟩ (.bool q)) b (cellsN (l.set j (l.getD j 0 ||| m))) 44 ∧ Touch (fun i => i = sb ∨ i = b) W ((W.setCell ⟨b, j, none⟩ (.int .u64 ((l.getD j 0 ||| m : Nat) : Int))).setCell ⟨sb, 8, none⟩ (.bool q))) := fun q hq => by
    have t1 : Touch (fun i => i = b) W (W.setCell ⟨b, j, none⟩ (.int .u64 ((l.getD j 0 ||| m : Nat) : Int))) := Touch.setCell _ _ _ rfl
    have t2 : Touch (fun i => i = sb) (W.setCell ⟨b, j, none⟩ (.int .u64 ((l.getD j 0 ||| m : Nat) : Int))) ((W.setCell ⟨b, j, none⟩ (.int .u64 ((l.getD j 0 ||| m : Nat) : Int))).setCell ⟨sb, 8, none⟩ (.bool q)) := Touch.setCell _ _ _ rfl
    refine ⟨?_, ?_, (t1.mono (fun _ _ h => .inr h)).trans (t2.mono (fun _ _ h => .inl h))⟩
    · rw [← hq]
      exact (hs.touch t1 hne).set 8 (.bool q)
    · refine VarAt.touch ?_ t2 (fun e => hne e.symm)
      have := hv.set j (.int .u64 ((l.getD j 0 ||| m : Nat) : Int))
      rwa [cellsN_set] at this
  generalize l.getD j 0 = u at *
  generalize hz : u ||| m = z at *
  replace hz := hid hz
  replace e2 := hid e2
  clear hs hv hm hl hj
  have nq := hid (neqN z u)
  cases g
  · go_enter Tryd.func40, Tryd.ntmps40
    go_wp2_with fail
    go_end0
    exact ⟨rfl, e2.out _ (by rw [nq.out]; simp)⟩
  · go_enter Tryd.func40, Tryd.ntmps40
    go_wp2_with fail
    go_end0
    exact ⟨rfl, e2.out _ (by simp)⟩
end Go.Proofs.YtkdpcaoocmbbhaaDoor
