/- The document's instr: its tests as plain mathematics. -/
import Derived.Test.YtjjfhjelkioehaaRinA
import Derived.Test.YtjjfhjelkioehaaAgrC
import Derived.Test.YtjjfhjelkioehaaSm3
import Derived.Test.YtjjfhjelkioehaaRGood
namespace Go.Proofs.Ytjjfhjelkioehaa
open Go.ChangeShapes Go.WideShapes Go.ChangeAt Go.RowKit
set_option linter.unusedVariables false

theorem quietB {w w1 : World} (h : Below w.heap.size w w1) (n : Nat) : Below w.heap.size w (w1.drewN n) := below_drewN h n
theorem bel2 {w W : World} (h : Below w.heap.size w W) (o1 o2 : Obj) : Below w.heap.size w ((W.alloc o1).alloc o2) := (h.alloc h.size o1).alloc (by have := h.size; simp only [World.size_alloc]; omega) o2
theorem bel3 {w W : World} (h : Below w.heap.size w W) (o1 o2 o3 : Obj) : Below w.heap.size w (((W.alloc o1).alloc o2).alloc o3) := (bel2 h o1 o2).alloc (by have := h.size; simp only [World.size_alloc]; omega) o3
theorem three0 {w : World} {b : Nat} {v0 v1 v2 : Value} (h : BoxAt w b [v0, v1, v2]) : w.cell? ⟨b, 0, none⟩ = some v0 ∧ w.cell? ⟨b, 1, none⟩ = some v1 ∧ w.cell? ⟨b, 2, none⟩ = some v2 := ⟨h.2 0 _ rfl, h.2 1 _ rfl, h.2 2 _ rfl⟩
theorem five0 {w : World} {b : Nat} {v0 v1 v2 v3 v4 : Value} (h : BoxAt w b [v0, v1, v2, v3, v4]) :
    w.cell? ⟨b, 0, none⟩ = some v0 ∧ w.cell? ⟨b, 1, none⟩ = some v1 ∧ w.cell? ⟨b, 2, none⟩ = some v2 ∧ w.cell? ⟨b, 3, none⟩ = some v3 ∧ w.cell? ⟨b, 4, none⟩ = some v4 :=
  ⟨h.2 0 _ rfl, h.2 1 _ rfl, h.2 2 _ rfl, h.2 3 _ rfl, h.2 4 _ rfl⟩
theorem eight {w : World} {b : Nat} {v0 v1 v2 v3 v4 v5 v6 v7 : Value} (h : BoxAt w b [v0, v1, v2, v3, v4, v5, v6, v7]) :
    w.cell? ⟨b, 0, none⟩ = some v0 ∧ w.cell? ⟨b, 1, none⟩ = some v1 ∧ w.cell? ⟨b, 2, none⟩ = some v2 ∧ w.cell? ⟨b, 3, none⟩ = some v3 ∧ w.cell? ⟨b, 4, none⟩ = some v4 ∧ w.cell? ⟨b, 5, none⟩ = some v5 ∧ w.cell? ⟨b, 6, none⟩ = some v6 ∧ w.cell? ⟨b, 7, none⟩ = some v7 :=
  ⟨h.2 0 _ rfl, h.2 1 _ rfl, h.2 2 _ rfl, h.2 3 _ rfl, h.2 4 _ rfl, h.2 5 _ rfl, h.2 6 _ rfl, h.2 7 _ rfl⟩

theorem GoodSays.mono {w w1 : World} {v : Value} {m : Int} {q : Bool} (h : GoodSays w v m q) (k : Below w.heap.size w w1) : GoodSays w1 v m q := fun W hb => h W (bover k hb)

theorem s16 {w : World} {bc bb bx : Nat} {c0 c1 c2 c3 c4 b0 b1 b2 f0 f1 f2 f3 f4 f5 f6 f7 : Value} (hc : BoxAt w bc [c0, c1, c2, c3, c4]) (hb : BoxAt w bb [b0, b1, b2]) (hx : BoxAt w bx [f0, f1, f2, f3, f4, f5, f6, f7]) :
    (w.cell? ⟨bc, 0, none⟩ = some c0 ∧ w.cell? ⟨bc, 1, none⟩ = some c1 ∧ w.cell? ⟨bc, 2, none⟩ = some c2 ∧ w.cell? ⟨bc, 3, none⟩ = some c3 ∧ w.cell? ⟨bc, 4, none⟩ = some c4) ∧
    (w.cell? ⟨bb, 0, none⟩ = some b0 ∧ w.cell? ⟨bb, 1, none⟩ = some b1 ∧ w.cell? ⟨bb, 2, none⟩ = some b2) ∧
    (w.cell? ⟨bx, 0, none⟩ = some f0 ∧ w.cell? ⟨bx, 1, none⟩ = some f1 ∧ w.cell? ⟨bx, 2, none⟩ = some f2 ∧ w.cell? ⟨bx, 3, none⟩ = some f3 ∧ w.cell? ⟨bx, 4, none⟩ = some f4 ∧ w.cell? ⟨bx, 5, none⟩ = some f5 ∧ w.cell? ⟨bx, 6, none⟩ = some f6 ∧ w.cell? ⟨bx, 7, none⟩ = some f7) := ⟨five0 hc, three0 hb, eight hx⟩

/-- The first test: a field that isn't named isn't nought. -/
def tA (x : Ins) : Bool := (((((((false || ((!hasD x.op) && (x.dst != 0))) || ((!hasS x.op) && (x.src != 0))) || ((!hasR x.op) && (x.rc != 0))) || ((!hasN x.op) && (x.n != 0))) || ((!hasT x.op) && (x.to != 0))) || ((!hasI x.op) && (decide (0 < (x.items.length : Int))))) || ((!hasX x.op) && (decide (0 < (x.index.length : Int)))))
/-- The second one: a place that is none, an expression that can't be. -/
def tB (c : Cd) (b : Bd) (x : Ins) : Bool := (((((hasD x.op && (!isIn x.dst b.slots.length)) || (hasS x.op && (!isIn x.src b.slots.length))) || (hasI x.op && (!goodB b.slots.length x.items))) || (hasX x.op && (!goodB b.slots.length x.index))) || (hasR x.op && (!isIn x.rc c.recs.length)))
theorem tB_d {c : Cd} {b : Bd} {x : Ins} (h : tB c b x = false) (k : hasD x.op = true) : isIn x.dst b.slots.length = true := by
  cases q : isIn x.dst b.slots.length
  · simp [tB, k, q] at h
  · rfl
theorem tB_s {c : Cd} {b : Bd} {x : Ins} (h : tB c b x = false) (k : hasS x.op = true) : isIn x.src b.slots.length = true := by
  cases q : isIn x.src b.slots.length
  · simp [tB, k, q] at h
  · rfl
theorem tB_r {c : Cd} {b : Bd} {x : Ins} (h : tB c b x = false) (k : hasR x.op = true) : isIn x.rc c.recs.length = true := by
  cases q : isIn x.rc c.recs.length
  · simp [tB, k, q] at h
  · rfl
/-- The third one: where it goes on. -/
def tC (c : Cd) (th : Int) (b : Bd) (pl : Int) (x : Ins) : Bool := hasT x.op && (!tgtB c.secs th b.code.length pl x.to)
/-- The fourth one: what is shared. -/
def tD (c : Cd) (th pl : Int) (x : Ins) : Bool := touchB x.op && decide (inside c.secs th pl < 0)
/-- The fifth one: the end. -/
def tE (b : Bd) (pl : Int) (x : Ins) : Bool := (x.op == 17) != (pl == (b.code.length : Int) - 1)
def insF (c : Cd) (th : Int) (b : Bd) (pl : Int) (x : Ins) : Bool := isOp x.op && ((!tA x) && ((!tB c b x) && ((!tC c th b pl x) && ((!tD c th pl x) && ((!tE b pl x) && agreesB c th b pl x)))))

theorem insOk_eq (c : Cd) (th : Int) (b : Bd) (pl : Int) (x : Ins) : insOk c th b pl x = insF c th b pl x := by
  have e1 : (decide (pl = (b.code.length : Int) - 1) == (x.op == 17)) = !tE b pl x := by
    unfold tE
    have : (pl == (b.code.length : Int) - 1) = decide (pl = (b.code.length : Int) - 1) := by rw [Bool.eq_iff_iff]; simp
    rw [this]
    cases decide (pl = (b.code.length : Int) - 1) <;> cases (x.op == 17) <;> rfl
  have e2 : (!touchB x.op || decide (0 ≤ inside c.secs th pl)) = !tD c th pl x := by
    unfold tD
    have : decide (0 ≤ inside c.secs th pl) = !decide (inside c.secs th pl < 0) := by
      by_cases h : inside c.secs th pl < 0
      · rw [decide_eq_true h, decide_eq_false (by omega)]; rfl
      · rw [decide_eq_false h, decide_eq_true (by omega)]; rfl
    rw [this]
    cases touchB x.op <;> cases decide (inside c.secs th pl < 0) <;> rfl
  have z (m : Int) : (m != 0) = !(m == 0) := rfl
  have y (m : Nat) : decide (0 < (m : Int)) = !decide (m = 0) := by
    by_cases h : m = 0
    · subst h; rfl
    · rw [decide_eq_true (show 0 < (m : Int) by omega), decide_eq_false h]; rfl
  have e3 : fieldsB c th b pl x = ((!tA x) && ((!tB c b x) && (!tC c th b pl x))) := by
    unfold fieldsB tA tB tC fld
    rw [z, z, z, z, z, y, y]
    generalize hasD x.op = q1
    generalize hasS x.op = q2
    generalize hasR x.op = q3
    generalize hasN x.op = q4
    generalize hasT x.op = q5
    generalize hasI x.op = q6
    generalize hasX x.op = q7
    generalize isIn x.dst b.slots.length = r1
    generalize isIn x.src b.slots.length = r2
    generalize isIn x.rc c.recs.length = r3
    generalize goodB b.slots.length x.items = r4
    generalize goodB b.slots.length x.index = r5
    generalize tgtB c.secs th b.code.length pl x.to = r6
    generalize (x.dst == 0) = z1
    generalize (x.src == 0) = z2
    generalize (x.rc == 0) = z3
    generalize (x.n == 0) = z4
    generalize (x.to == 0) = z5
    generalize decide (x.items.length = 0) = z6
    generalize decide (x.index.length = 0) = z7
    rw [Bool.eq_iff_iff]
    simp only [Bool.and_eq_true, Bool.not_eq_true', Bool.or_eq_false_iff, Bool.and_eq_false_iff, Bool.or_eq_true]
    cases q1 <;> cases q2 <;> cases q3 <;> cases q4 <;> cases q5 <;> cases q6 <;> cases q7 <;> simp
    all_goals (intros; constructor <;> intro h <;> simp [h])
  unfold insOk insF
  rw [e1, e2, e3]
  generalize tA x = q1
  generalize tB c b x = q2
  generalize tC c th b pl x = q3
  generalize tD c th pl x = q4
  generalize tE b pl x = q5
  generalize agreesB c th b pl x = q6
  generalize isOp x.op = q7
  cases q1 <;> cases q2 <;> cases q3 <;> cases q4 <;> cases q5 <;> cases q6 <;> cases q7 <;> rfl

theorem ibeq (a b : Int) : (a == b) = (b == a) := by
  by_cases h : a = b
  · subst h; rfl
  · rw [beq_eq_false_iff_ne.2 h, beq_eq_false_iff_ne.2 (Ne.symm h)]
theorem ibne (a b : Int) : (a != b) = !(a == b) := rfl
/-- A slot of a kind without records names none. -/
theorem holds_plain {nr : Nat} {b : Bd} {k : Nat} {s : Loc} {q : Int} (h : locOk nr s = true) (hk : b.slots[k]? = some s) (hq : q = 1 ∨ q = 3) : holdsB b (k : Int) q 0 = (s.kind == q) := by
  have e : (b.slots.getD (k : Int).toNat Loc.z) = s := by simp [List.getD, hk]
  unfold holdsB
  rw [e]
  cases e2 : (s.kind == q)
  · rfl
  · have e3 : s.kind = q := by simpa using e2
    unfold locOk at h
    rw [e3] at h
    rcases hq with rfl | rfl <;> simpa using h
theorem holds_at {b : Bd} {k : Nat} {s : Loc} {q r : Int} (hk : b.slots[k]? = some s) : holdsB b (k : Int) q r = (s.kind == q && s.rc == r) := by
  have e : (b.slots.getD (k : Int).toNat Loc.z) = s := by simp [List.getD, hk]
  unfold holdsB
  rw [e]
end Go.Proofs.Ytjjfhjelkioehaa
