/- What becomes of a statement in each of the eight ways, and that it is the same, or isn't. -/
import Derived.Test.YtfdfeiempeciiaaTurn
namespace Go.Proofs.Ytfdfeiempeciiaa
open Go.ChangeShapes Go.WideShapes Go.ChangeAt Go.RowKit
set_option linter.unusedVariables false

theorem wrap64_ne (n : Int) (h : I64 n) : wrap64 (n + 1) ≠ n ∧ I64 (wrap64 (n + 1)) := by
  unfold I64 wrap64 at *
  omega
def uw (n : Int) : Int := (n + 1) % 18446744073709551616
theorem uw_ne (n : Int) (h : U64 n) : uw n ≠ n ∧ U64 (uw n) := by
  unfold U64 uw at *
  omega
def zz : ByteArray := { data := #[122] }
theorem app_ne (a b : ByteArray) (x : ByteArray) (h : x.toList = a.toList) (hb : b.toList = a.toList ++ [122]) : (x.toList == b.toList) = false ∧ (b.toList == x.toList) = false := by
  rw [h, hb]
  have : a.toList ≠ a.toList ++ [122] := fun e => by have := congrArg List.length e; simp at this
  exact ⟨beq_eq_false_iff_ne.2 this, beq_eq_false_iff_ne.2 this.symm⟩

def St.t0 (s : St) : St := { s with op := wrap64 (s.op + 1) }
def St.t1 (s : St) (b : ByteArray) : St := { s with nm := b }
def St.t2 (s : St) : St := { s with e := { s.e with n := uw s.e.n } }
def St.t3 (s : St) : St := { s with right := { s.right with place := { s.right.place with index := { s.right.place.index with bin := wrap64 (s.right.place.index.bin + 1) } } } }
def St.t4 (s : St) (v : Value) : St := { s with body := s.body ++ [St.zero], bv := v }
def St.t5 (s : St) (b : ByteArray) : St := { s with place := { s.place with field := b } }
def St.t6 (s : St) : St := { s with right := { s.right with e := { s.right.e with tr := zz } } }
def St.t7a (s : St) : St := { s with line := 5 }
def St.t7b (s : St) : St := { s with col := 6 }
def St.t7c (s : St) : St := { s with e := { s.e with line := 7 } }
def St.t7d (s : St) : St := { s with right := { s.right with place := { s.right.place with col := 8 } } }
def St.t7 (s : St) : St := s.t7a.t7b.t7c.t7d

theorem St.t0_cells (s : St) : s.t0.cells = s.cells.set 0 (.int .i64 (wrap64 (s.op + 1))) := rfl
theorem St.t1_cells (s : St) (b : ByteArray) : (s.t1 b).cells = s.cells.set 1 (.string b) := rfl
theorem St.t2_cells (s : St) : s.t2.cells = s.cells.set 45 (.int .u64 (uw s.e.n)) := rfl
theorem St.t3_cells (s : St) : s.t3.cells = s.cells.set 16 (.int .i64 (wrap64 (s.right.place.index.bin + 1))) := rfl
theorem St.t4_cells (s : St) (v : Value) : (s.t4 v).cells = s.cells.set 54 v := rfl
theorem St.t5_cells (s : St) (b : ByteArray) : (s.t5 b).cells = s.cells.set 31 (.string b) := rfl
theorem St.t6_cells (s : St) : s.t6.cells = s.cells.set 7 (.string zz) := rfl
theorem St.t7a_cells (s : St) : s.t7a.cells = s.cells.set 56 (.int .i64 5) := rfl
theorem St.t7b_cells (s : St) : s.t7b.cells = s.cells.set 57 (.int .i64 6) := rfl
theorem St.t7c_cells (s : St) : s.t7c.cells = s.cells.set 50 (.int .i64 7) := rfl
theorem St.t7d_cells (s : St) : s.t7d.cells = s.cells.set 25 (.int .i64 8) := rfl

section
variable {w : World} {F : Nat → Prop} {s : St}
theorem Ex.ok.upd {e e' : Ex} (h : e.ok w F) (hn : I64 e'.op ∧ I64 e'.bin ∧ U64 e'.n ∧ I64 e'.tk) (hk : e'.kids = e.kids) (hv : e'.kv = e.kv) : e'.ok w F := (Ex.ok_iff _ _ _).2 ⟨hn, by rw [hk, hv]; exact h.row, by rw [hk]; exact h.kid⟩
theorem St.t0_ok (h : s.ok w F) : s.t0.ok w F := (St.ok_iff _ _ _).2 ⟨⟨⟨(wrap64_ne _ h.hd.1.1).2, h.hd.1.2⟩, h.hd.2⟩, h.bodies, h.elses⟩
theorem St.t1_ok (h : s.ok w F) (b : ByteArray) : (s.t1 b).ok w F := (St.ok_iff _ _ _).2 ⟨⟨h.hd.1, h.hd.2⟩, h.bodies, h.elses⟩
theorem St.t2_ok (h : s.ok w F) : s.t2.ok w F := (St.ok_iff _ _ _).2 ⟨⟨h.hd.1, h.hd.2.1, h.hd.2.2.1, h.hd.2.2.2.1.upd ⟨h.hd.2.2.2.1.nums.1, h.hd.2.2.2.1.nums.2.1, (uw_ne _ h.hd.2.2.2.1.nums.2.2.1).2, h.hd.2.2.2.1.nums.2.2.2⟩ rfl rfl, h.hd.2.2.2.2⟩, h.bodies, h.elses⟩
theorem St.t3_ok (h : s.ok w F) : s.t3.ok w F := (St.ok_iff _ _ _).2 ⟨⟨h.hd.1, ⟨h.hd.2.1.1, h.hd.2.1.2.1, h.hd.2.1.2.2.1, h.hd.2.1.2.2.2.upd ⟨h.hd.2.1.2.2.2.nums.1, (wrap64_ne _ h.hd.2.1.2.2.2.nums.2.1).2, h.hd.2.1.2.2.2.nums.2.2⟩ rfl rfl⟩, h.hd.2.2⟩, h.bodies, h.elses⟩
theorem St.zero_ok (w : World) (F : Nat → Prop) : St.zero.ok w F := (St.ok_iff _ _ _).2 ⟨⟨by simp [St.zero, I64], Rt.zero_ok w F, Pl.zero_ok w F, Ex.zero_ok w F, ⟨RowAt.nil _ _ _, by simp [St.zero]⟩, RowAt.nil _ _ _, RowAt.nil _ _ _⟩, by simp [St.zero], by simp [St.zero]⟩
theorem St.t4_ok (h : s.ok w F) (v : Value) (hr : RowAt w F 58 v (s.body.length + 1) (s.body.flatMap St.cells ++ St.zero.cells)) : (s.t4 v).ok w F := (St.ok_iff _ _ _).2 ⟨⟨h.hd.1, h.hd.2.1, h.hd.2.2.1, h.hd.2.2.2.1, h.hd.2.2.2.2.1, by simpa [St.t4] using hr, h.hd.2.2.2.2.2.2⟩, fun k hk => by
  simp only [St.t4, List.mem_append, List.mem_cons, List.not_mem_nil, or_false] at hk
  rcases hk with hk | rfl
  · exact h.bodies k hk
  · exact St.zero_ok w F, h.elses⟩
theorem St.t5_ok (h : s.ok w F) (b : ByteArray) : (s.t5 b).ok w F := (St.ok_iff _ _ _).2 ⟨⟨h.hd.1, h.hd.2.1, ⟨h.hd.2.2.1.1, h.hd.2.2.1.2⟩, h.hd.2.2.2⟩, h.bodies, h.elses⟩
theorem St.t6_ok (h : s.ok w F) : s.t6.ok w F := (St.ok_iff _ _ _).2 ⟨⟨h.hd.1, ⟨h.hd.2.1.1, h.hd.2.1.2.1.upd h.hd.2.1.2.1.nums rfl rfl, h.hd.2.1.2.2⟩, h.hd.2.2⟩, h.bodies, h.elses⟩
theorem St.t7a_ok (h : s.ok w F) : s.t7a.ok w F := (St.ok_iff _ _ _).2 ⟨⟨h.hd.1, h.hd.2⟩, h.bodies, h.elses⟩
theorem St.t7b_ok (h : s.ok w F) : s.t7b.ok w F := (St.ok_iff _ _ _).2 ⟨⟨h.hd.1, h.hd.2⟩, h.bodies, h.elses⟩
theorem St.t7c_ok (h : s.ok w F) : s.t7c.ok w F := (St.ok_iff _ _ _).2 ⟨⟨h.hd.1, h.hd.2.1, h.hd.2.2.1, h.hd.2.2.2.1.upd h.hd.2.2.2.1.nums rfl rfl, h.hd.2.2.2.2⟩, h.bodies, h.elses⟩
theorem St.t7d_ok (h : s.ok w F) : s.t7d.ok w F := (St.ok_iff _ _ _).2 ⟨⟨h.hd.1, ⟨h.hd.2.1.1, h.hd.2.1.2.1, h.hd.2.1.2.2.1, h.hd.2.1.2.2.2⟩, h.hd.2.2⟩, h.bodies, h.elses⟩

theorem bare_parts {x : St} (h : x.bare = s.bare) : x.op = s.op ∧ x.nm = s.nm ∧ x.e.n = s.e.n ∧ x.right.place.index.bin = s.right.place.index.bin ∧ x.body.length = s.body.length ∧ x.place.field = s.place.field ∧ x.right.e.tr = s.right.e.tr := by
  rw [St.bare_eq, St.bare_eq] at h
  simp only [St.mk.injEq, Rt.bare, Pl.bare, Rt.mk.injEq, Pl.mk.injEq, Ex.bare_eq, Ex.mk.injEq] at h
  obtain ⟨h1, h2, h3, h4, h5, h6, h7, -, h8, -, h9, -, -, -⟩ := h
  have h8 := congrArg List.length h8
  simp at h8
  exact ⟨h1, h2, h5.2.2.1, h3.2.2.1.2.2.2.1.2.1, h8, h4.2.2.1, h3.2.1.2.2.2.2.1⟩

theorem bnot {a b : Int} (h : a ≠ b) : (a == b) = false := by simpa using h
theorem St.t0_not (h : s.ok w F) : ∀ x : St, x.bare = s.bare → x.same s.t0 = false ∧ s.t0.same x = false := fun x hx => by
  have e := (bare_parts hx).1
  have n := (wrap64_ne _ h.hd.1.1).1
  rw [St.same_eq, St.same_eq]
  simp only [St.t0, e, bnot n, bnot n.symm, Bool.false_and, and_self]
theorem St.t1_not (b : ByteArray) (hb : b.toList = s.nm.toList ++ [122]) : ∀ x : St, x.bare = s.bare → x.same (s.t1 b) = false ∧ (s.t1 b).same x = false := fun x hx => by
  obtain ⟨e1, e2⟩ := app_ne s.nm b x.nm (by rw [(bare_parts hx).2.1]) hb
  rw [St.same_eq, St.same_eq]
  simp only [St.t1, e1, e2, Bool.false_and, Bool.and_false, and_self]
theorem St.t2_not (h : s.ok w F) : ∀ x : St, x.bare = s.bare → x.same s.t2 = false ∧ s.t2.same x = false := fun x hx => by
  have e := (bare_parts hx).2.2.1
  have n := (uw_ne _ h.hd.2.2.2.1.nums.2.2.1).1
  rw [St.same_eq, St.same_eq, Ex.same_eq, Ex.same_eq]
  simp only [St.t2, e, bnot n, bnot n.symm, Bool.false_and, Bool.and_false, and_self]
theorem St.t3_not (h : s.ok w F) : ∀ x : St, x.bare = s.bare → x.same s.t3 = false ∧ s.t3.same x = false := fun x hx => by
  have e := (bare_parts hx).2.2.2.1
  have n := (wrap64_ne _ h.hd.2.1.2.2.2.nums.2.1).1
  rw [St.same_eq, St.same_eq]
  simp only [Rt.same, Pl.same]
  rw [Ex.same_eq x.right.place.index, Ex.same_eq _ x.right.place.index]
  simp only [St.t3, e, bnot n, bnot n.symm, Bool.false_and, Bool.and_false, and_self]
theorem St.t4_not (v : Value) : ∀ x : St, x.bare = s.bare → x.same (s.t4 v) = false ∧ (s.t4 v).same x = false := fun x hx => by
  have e := (bare_parts hx).2.2.2.2.1
  rw [St.same_eq, St.same_eq, eqL_len St.same x.body (s.t4 v).body (by simp [St.t4, e]), eqL_len St.same (s.t4 v).body x.body (by simp [St.t4, e])]
  simp only [Bool.false_and, Bool.and_false, and_self]
theorem St.t5_not (b : ByteArray) (hb : b.toList = s.place.field.toList ++ [122]) : ∀ x : St, x.bare = s.bare → x.same (s.t5 b) = false ∧ (s.t5 b).same x = false := fun x hx => by
  obtain ⟨e1, e2⟩ := app_ne s.place.field b x.place.field (by rw [(bare_parts hx).2.2.2.2.2.1]) hb
  rw [St.same_eq, St.same_eq]
  simp only [St.t5, Pl.same, e1, e2, Bool.false_and, Bool.and_false, and_self]
theorem St.t6_not (ht : s.right.e.tr.toList ≠ [122]) : ∀ x : St, x.bare = s.bare → x.same s.t6 = false ∧ s.t6.same x = false := fun x hx => by
  have e := (bare_parts hx).2.2.2.2.2.2
  have z : zz.toList = [122] := by decide +kernel
  have e1 : (s.right.e.tr.toList == zz.toList) = false := by rw [z]; simpa using ht
  have e2 : (zz.toList == s.right.e.tr.toList) = false := by rw [z]; simpa using fun h => ht (by rw [← h])
  rw [St.same_eq, St.same_eq]
  simp only [Rt.same]
  rw [Ex.same_eq x.right.e, Ex.same_eq _ x.right.e]
  simp only [St.t6, e, e1, e2, Bool.false_and, Bool.and_false, and_self]
theorem St.t7_yes : ∀ x : St, x.bare = s.bare → x.same s.t7 = true ∧ s.t7.same x = true := fun x hx => by
  have k1 := St.same_bare x s hx
  have k2 := St.same_bare s x hx.symm
  have a1 : x.same s.t7 = x.same s := by
    rw [St.same_eq, St.same_eq]
    simp only [Rt.same, Pl.same]
    rw [Ex.same_eq x.e, Ex.same_eq x.e]
    rfl
  have a2 : s.t7.same x = s.same x := by
    rw [St.same_eq, St.same_eq]
    simp only [Rt.same, Pl.same]
    rw [Ex.same_eq _ x.e, Ex.same_eq _ x.e]
    rfl
  exact ⟨a1.trans k1, a2.trans k2⟩
end
end Go.Proofs.Ytfdfeiempeciiaa
