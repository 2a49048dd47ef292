/- The document's rows of texts, plainly. -/
import Derived.Test.YtfdfeiempeciiaaText
import Derived.Test.YtfdfeiempeciiaaMakeM
namespace Go.Proofs.Ytfdfeiempeciiaa
open Go.ChangeShapes Go.WideShapes Go.ChangeAt Go.RowKit
set_option linter.unusedVariables false

def sExpr : ByteArray := { data := #[101, 120, 112, 114] }

/-- An expression's texts. -/
def Ex.texts (e : Ex) : List ByteArray := match e with
  | ⟨op, bin, n, tk, tr, nm, kids, _, _, _⟩ => [sExpr, txt op, txt bin, txt (wrap64 n), txt tk, tr, nm, txt kids.length] ++ kids.attach.flatMap (fun (x : { x // x ∈ kids }) => have := List.sizeOf_lt_of_mem x.2; x.1.texts)
theorem flatMap_att {α β : Type} (l : List α) (f : α → List β) : l.attach.flatMap (fun x => f x.1) = l.flatMap f := by
  have : ∀ k : List { x // x ∈ l }, k.flatMap (fun x => f x.1) = (k.map (·.1)).flatMap f := by
    intro k
    induction k with
    | nil => rfl
    | cons a k ih => simp only [List.flatMap_cons, List.map_cons, ih]
  rw [this, List.attach_map_subtype_val]
theorem Ex.texts_eq (e : Ex) : e.texts = [sExpr, txt e.op, txt e.bin, txt (wrap64 e.n), txt e.tk, e.tr, e.nm, txt e.kids.length] ++ e.kids.flatMap Ex.texts := by
  cases e
  rw [Ex.texts]
  exact congrArg (HAppend.hAppend _) (flatMap_att _ Ex.texts)

/-- Of texts alone: the same letters. -/
def sameT : List ByteArray → List ByteArray → Bool := eqL (fun a b => a.toList == b.toList)
theorem sameT_refl (l : List ByteArray) : sameT l l = true := by
  induction l with
  | nil => rfl
  | cons a l ih => simp [sameT, eqL] at ih ⊢; exact ih

/-- Rows that begin alike, and are as long, are alike: cut behind a first part that tells its own length. -/
theorem sameT_app {a b c d : List ByteArray} (h : a.length = b.length) : sameT (a ++ c) (b ++ d) = (sameT a b && sameT c d) := by
  induction a generalizing b with
  | nil =>
    cases b with
    | nil => simp [sameT, eqL]
    | cons y b => simp at h
  | cons x a ih =>
    cases b with
    | nil => simp at h
    | cons y b =>
      have := ih (b := b) (by simpa using h)
      simp only [sameT, List.cons_append, eqL] at this ⊢
      rw [this, Bool.and_assoc]

theorem sameT_cons (x y : ByteArray) (l m : List ByteArray) : sameT (x :: l) (y :: m) = (x.toList == y.toList && sameT l m) := rfl
theorem txt_eq (n m : Int) (hn : I64 n) (hm : I64 m) : ((txt n).toList == (txt m).toList) = (n == m) := by
  by_cases h : n = m
  · simp [h]
  · have : ¬ (txt n).toList = (txt m).toList := fun e => h (txt_inj n m hn hm e)
    rw [beq_eq_false_iff_ne.2 this, beq_eq_false_iff_ne.2 h]
theorem wrap_i64 (n : Int) : I64 (wrap64 n) := by unfold I64 wrap64; omega
theorem wrap_eq (n m : Int) (hn : U64 n) (hm : U64 m) : (wrap64 n == wrap64 m) = (n == m) := by
  unfold U64 at hn hm
  by_cases h : n = m
  · simp [h]
  · have : wrap64 n ≠ wrap64 m := by unfold wrap64; omega
    rw [beq_eq_false_iff_ne.2 this, beq_eq_false_iff_ne.2 h]

/-- Rows of what is told by texts of which each tells its own end. -/
theorem sameT_rows {α : Type} (f : α → List ByteArray) (p : α → α → Bool) (l m : List α) (hp : ∀ x ∈ l, ∀ y ∈ m, ∀ c d, sameT (f x ++ c) (f y ++ d) = (p x y && sameT c d)) (hl : l.length = m.length) (c d : List ByteArray) :
    sameT (l.flatMap f ++ c) (m.flatMap f ++ d) = (eqL p l m && sameT c d) := by
  induction l generalizing m with
  | nil =>
    cases m with
    | nil => simp [eqL]
    | cons y m => simp at hl
  | cons x l ih =>
    cases m with
    | nil => simp at hl
    | cons y m =>
      simp only [List.flatMap_cons, List.append_assoc, eqL]
      rw [hp x (by simp) y (by simp), ih m (fun a ha b hb => hp a (by simp [ha]) b (by simp [hb])) (by simpa using hl), Bool.and_assoc]

theorem len_i64 {n : Nat} (h : n < 140737488355328) : I64 (n : Int) := by unfold I64; omega

/-- Two expressions have the same texts just if they are the same. -/
theorem Ex.texts_same {w w' : World} {F G : Nat → Prop} (a : Ex) : ∀ (b : Ex), a.ok w F → b.ok w' G → ∀ c d, sameT (a.texts ++ c) (b.texts ++ d) = (a.same b && sameT c d) := by
  induction a using Ex.ind with
  | h a ih =>
    intro b ha hb c d
    obtain ⟨a1, a2, a3, a4⟩ := ha.nums
    obtain ⟨b1, b2, b3, b4⟩ := hb.nums
    have la := len_i64 ha.row.1.2
    have lb := len_i64 hb.row.1.2
    rw [Ex.texts_eq, Ex.texts_eq, Ex.same_eq]
    simp only [List.cons_append, List.nil_append, sameT_cons, txt_eq _ _ a1 b1, txt_eq _ _ a2 b2, txt_eq _ _ (wrap_i64 _) (wrap_i64 _), wrap_eq _ _ a3 b3, txt_eq _ _ a4 b4, txt_eq _ _ la lb]
    by_cases hl : a.kids.length = b.kids.length
    · rw [sameT_rows Ex.texts Ex.same a.kids b.kids (fun x hx y hy c d => ih x hx y (ha.kid x hx) (hb.kid y hy) c d) hl]
      have e : ((a.kids.length : Int) == (b.kids.length : Int)) = true := by rw [hl]; simp
      rw [e]
      simp [Bool.and_assoc]
    · have e : ((a.kids.length : Int) == (b.kids.length : Int)) = false := by
        rw [beq_eq_false_iff_ne]
        omega
      rw [e, eqL_len _ _ _ hl]
      simp
end Go.Proofs.Ytfdfeiempeciiaa
