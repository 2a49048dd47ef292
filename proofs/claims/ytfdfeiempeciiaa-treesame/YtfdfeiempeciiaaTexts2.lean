/- The document's rows of texts of statements and programs, plainly. -/
import Derived.Test.YtfdfeiempeciiaaTexts
namespace Go.Proofs.Ytfdfeiempeciiaa
open Go.ChangeShapes Go.WideShapes Go.ChangeAt Go.RowKit
set_option linter.unusedVariables false

def sPlace : ByteArray := { data := #[112, 108, 97, 99, 101] }
def sRow : ByteArray := { data := #[114, 111, 119] }
def sStmt : ByteArray := { data := #[115, 116, 109, 116] }

def Pl.texts (p : Pl) : List ByteArray := [sPlace, txt p.op, p.base, p.field] ++ p.index.texts
def St.texts (s : St) : List ByteArray := match s with
  | ⟨op, nm, right, place, e, n, args, _, body, _, els, _, _, _⟩ => [sStmt, txt op, nm, txt n, txt right.op, right.nm, txt args.length] ++ (right.e.texts ++ (right.place.texts ++ (place.texts ++ (e.texts ++ (args.flatMap Ex.texts ++
    ([sRow, txt body.length] ++ (body.attach.flatMap (fun (x : { x // x ∈ body }) => have := List.sizeOf_lt_of_mem x.2; x.1.texts) ++ ([sRow, txt els.length] ++ els.attach.flatMap (fun (x : { x // x ∈ els }) => have := List.sizeOf_lt_of_mem x.2; x.1.texts))))))))) 
theorem St.texts_eq (s : St) : s.texts = [sStmt, txt s.op, s.nm, txt s.n, txt s.right.op, s.right.nm, txt s.args.length] ++ (s.right.e.texts ++ (s.right.place.texts ++ (s.place.texts ++ (s.e.texts ++ (s.args.flatMap Ex.texts ++
    ([sRow, txt s.body.length] ++ (s.body.flatMap St.texts ++ ([sRow, txt s.els.length] ++ s.els.flatMap St.texts)))))))) := by
  cases s
  rw [St.texts]
  have h1 := fun l => flatMap_att l St.texts
  simp only [h1]
def rowT (l : List St) : List ByteArray := [sRow, txt l.length] ++ l.flatMap St.texts
def namedT (l : List Nm) : List ByteArray := [txt l.length] ++ l.flatMap (fun n => [n.nm, txt n.tk, n.tr])
def Rc.texts (r : Rc) : List ByteArray := r.nm :: namedT r.fields
def Fn.texts (f : Fn) : List ByteArray := f.nm :: (namedT f.params ++ rowT f.body)
def Th.texts (t : Th) : List ByteArray := rowT t.body
def Pg.texts (p : Pg) : List ByteArray := [txt p.recs.length, txt p.funs.length, txt p.threads.length] ++ (p.recs.flatMap Rc.texts ++ (namedT p.globs ++ (p.funs.flatMap Fn.texts ++ p.threads.flatMap Th.texts)))

theorem Pl.texts_same {w w' : World} {F G : Nat → Prop} (a b : Pl) (ha : a.ok w F) (hb : b.ok w' G) (c d : List ByteArray) : sameT (a.texts ++ c) (b.texts ++ d) = (a.same b && sameT c d) := by
  simp only [Pl.texts, List.cons_append, List.nil_append, sameT_cons, txt_eq _ _ ha.1 hb.1, Ex.texts_same a.index b.index ha.2 hb.2, Pl.same, Bool.and_assoc]
  simp

theorem St.texts_same {w w' : World} {F G : Nat → Prop} (a : St) : ∀ (b : St), a.ok w F → b.ok w' G → ∀ c d, sameT (a.texts ++ c) (b.texts ++ d) = (a.same b && sameT c d) := by
  induction a using St.ind with
  | h a ih1 ih2 =>
    intro b ha hb c d
    obtain ⟨⟨a1, a2⟩, ar, ap, ae, aa, ab, ael⟩ := ha.hd
    obtain ⟨⟨b1, b2⟩, br, bp, be, ba, bb, bel⟩ := hb.hd
    have l1 := len_i64 aa.1.1.2
    have l2 := len_i64 ba.1.1.2
    have l3 := len_i64 ab.1.2
    have l4 := len_i64 bb.1.2
    have l5 := len_i64 ael.1.2
    have l6 := len_i64 bel.1.2
    rw [St.texts_eq, St.texts_eq, St.same_eq]
    simp only [List.cons_append, List.nil_append, List.append_assoc, sameT_cons, txt_eq _ _ a1 b1, txt_eq _ _ a2 b2, txt_eq _ _ ar.1 br.1, txt_eq _ _ l1 l2, Ex.texts_same a.right.e b.right.e ar.2.1 br.2.1, Pl.texts_same a.right.place b.right.place ar.2.2 br.2.2, Pl.texts_same a.place b.place ap bp, Ex.texts_same a.e b.e ae be, Rt.same]
    by_cases hl1 : a.args.length = b.args.length
    · rw [sameT_rows Ex.texts Ex.same a.args b.args (fun x hx y hy c d => Ex.texts_same x y (aa.2 x hx) (ba.2 y hy) c d) hl1]
      have e1 : ((a.args.length : Int) == (b.args.length : Int)) = true := by rw [hl1]; simp
      simp only [sameT_cons, txt_eq _ _ l3 l4]
      by_cases hl2 : a.body.length = b.body.length
      · rw [sameT_rows St.texts St.same a.body b.body (fun x hx y hy c d => ih1 x hx y (ha.bodies x hx) (hb.bodies y hy) c d) hl2]
        have e2 : ((a.body.length : Int) == (b.body.length : Int)) = true := by rw [hl2]; simp
        simp only [sameT_cons, txt_eq _ _ l5 l6]
        by_cases hl3 : a.els.length = b.els.length
        · rw [sameT_rows St.texts St.same a.els b.els (fun x hx y hy c d => ih2 x hx y (ha.elses x hx) (hb.elses y hy) c d) hl3]
          have e3 : ((a.els.length : Int) == (b.els.length : Int)) = true := by rw [hl3]; simp
          rw [e1, e2, e3]
          simp only [Bool.true_and, beq_self_eq_true]
          ac_rfl
        · have e3 : ((a.els.length : Int) == (b.els.length : Int)) = false := by
            rw [beq_eq_false_iff_ne]
            omega
          rw [e3, eqL_len St.same a.els b.els hl3]
          simp
      · have e2 : ((a.body.length : Int) == (b.body.length : Int)) = false := by
          rw [beq_eq_false_iff_ne]
          omega
        rw [e2, eqL_len St.same a.body b.body hl2]
        simp
    · have e1 : ((a.args.length : Int) == (b.args.length : Int)) = false := by
        rw [beq_eq_false_iff_ne]
        omega
      rw [e1, eqL_len Ex.same a.args b.args hl1]
      simp

theorem rowT_same {w w' : World} {F G : Nat → Prop} {v u : Value} (a b : List St) (ha : stsOk w F v a) (hb : stsOk w' G u b) (c d : List ByteArray) : sameT (rowT a ++ c) (rowT b ++ d) = (eqL St.same a b && sameT c d) := by
  simp only [rowT, List.cons_append, List.nil_append, sameT_cons, txt_eq _ _ (len_i64 ha.1.1.2) (len_i64 hb.1.1.2)]
  by_cases hl : a.length = b.length
  · rw [sameT_rows St.texts St.same a b (fun x hx y hy c d => St.texts_same x y (ha.2 x hx) (hb.2 y hy) c d) hl]
    have e : ((a.length : Int) == (b.length : Int)) = true := by rw [hl]; simp
    rw [e]
    simp
  · have e : ((a.length : Int) == (b.length : Int)) = false := by
      rw [beq_eq_false_iff_ne]
      omega
    rw [e, eqL_len St.same a b hl]
    simp

theorem namedT_same {w w' : World} {F G : Nat → Prop} {v u : Value} (a b : List Nm) (ha : nmsOk w F v a) (hb : nmsOk w' G u b) (c d : List ByteArray) : sameT (namedT a ++ c) (namedT b ++ d) = (eqL Nm.same a b && sameT c d) := by
  simp only [namedT, List.cons_append, List.nil_append, sameT_cons, txt_eq _ _ (len_i64 ha.1.1.2) (len_i64 hb.1.1.2)]
  by_cases hl : a.length = b.length
  · rw [sameT_rows (fun n => [n.nm, txt n.tk, n.tr]) Nm.same a b (fun x hx y hy c d => by
      simp only [List.cons_append, List.nil_append, sameT_cons, txt_eq _ _ (ha.2 x hx) (hb.2 y hy), Nm.same, Bool.and_assoc]) hl]
    have e : ((a.length : Int) == (b.length : Int)) = true := by rw [hl]; simp
    rw [e]
    simp
  · have e : ((a.length : Int) == (b.length : Int)) = false := by
      rw [beq_eq_false_iff_ne]
      omega
    rw [e, eqL_len Nm.same a b hl]
    simp

/-- Two programs have the same texts just if they are the same. -/
theorem Pg.texts_same {w w' : World} {F G : Nat → Prop} (a b : Pg) (ha : a.ok w F) (hb : b.ok w' G) : sameT a.texts b.texts = a.same b := by
  obtain ⟨⟨a1, a2⟩, a3, ⟨a4, a5⟩, a6, a7⟩ := ha
  obtain ⟨⟨b1, b2⟩, b3, ⟨b4, b5⟩, b6, b7⟩ := hb
  simp only [Pg.texts, List.cons_append, List.nil_append, sameT_cons, txt_eq _ _ (len_i64 a1.1.2) (len_i64 b1.1.2), txt_eq _ _ (len_i64 a4.1.2) (len_i64 b4.1.2), txt_eq _ _ (len_i64 a6.1.2) (len_i64 b6.1.2), Pg.same]
  have neq : ∀ n m : Nat, n ≠ m → ((n : Int) == (m : Int)) = false := fun n m h => by
    rw [beq_eq_false_iff_ne]
    omega
  by_cases h1 : a.recs.length = b.recs.length
  · by_cases h2 : a.funs.length = b.funs.length
    · by_cases h3 : a.threads.length = b.threads.length
      · rw [sameT_rows Rc.texts Rc.same a.recs b.recs (fun x hx y hy c d => by
            simp only [Rc.texts, List.cons_append, sameT_cons, namedT_same x.fields y.fields (a2 x hx) (b2 y hy), Rc.same, Bool.and_assoc]) h1,
          namedT_same a.globs b.globs a3 b3,
          sameT_rows Fn.texts Fn.same a.funs b.funs (fun x hx y hy c d => by
            simp only [Fn.texts, List.cons_append, List.append_assoc, sameT_cons, namedT_same x.params y.params (a5 x hx).1 (b5 y hy).1, rowT_same x.body y.body (a5 x hx).2 (b5 y hy).2, Fn.same, Bool.and_assoc]) h2]
        have e := sameT_rows Th.texts Th.same a.threads b.threads (fun x hx y hy c d => by
            simp only [Th.texts, rowT_same x.body y.body (a7 x hx) (b7 y hy), Th.same]) h3 [] []
        rw [List.append_nil, List.append_nil] at e
        rw [e, h1, h2, h3]
        simp [sameT, eqL]
      · rw [neq _ _ h3, eqL_len Th.same _ _ h3]
        simp
    · rw [neq _ _ h2, eqL_len Fn.same _ _ h2]
      simp
  · rw [neq _ _ h1, eqL_len Rc.same _ _ h1]
    simp
end Go.Proofs.Ytfdfeiempeciiaa
