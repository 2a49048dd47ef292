/- The contract of the document's text: a number as eight bytes, which no other one has. -/
import Derived.Test.YtfdfeiempeciiaaVars
import Derived.Laws.BytesArg
import Derived.Test.YtfdfeiempeciiaaMakeM
import Derived.Deep.QuietTactic
import Derived.BigQuiet
import Derived.Test.YtfdfeiempeciiaaNames
import Derived.Test.YtfdfeiempeciiaaApp
import Derived.Deep.RegionHeld3
import Derived.Deep.DrawnRows
namespace Go.Proofs.Ytfdfeiempeciiaa
open Go.ChangeShapes Go.WideShapes Go.ChangeAt Go.RowKit
set_option linter.unusedVariables false

/-- A number's eight bytes. -/
def txL (n : Int) : List Int := [IntKind.u64.wrap n % 256, IntKind.u64.wrap n / 256 % 256, IntKind.u64.wrap n / 65536 % 256, IntKind.u64.wrap n / 16777216 % 256, IntKind.u64.wrap n / 4294967296 % 256, IntKind.u64.wrap n / 1099511627776 % 256, IntKind.u64.wrap n / 281474976710656 % 256, IntKind.u64.wrap n / 72057594037927936 % 256]
def txt (n : Int) : ByteArray := strOfNums (txL n)

section
variable {ops : Array Oper} {rest : List Oper} {op : Oper} {a : Act} {w : World} {Q : Exit → Act → World → Prop}
theorem wl_tostr (x : Operand) (ho : op.op = .convert 101 9 x) (hw : Region.wanted op (yielded ops a.tmps) = true) (b : Nat) (hx : a.eval x = .slice (some ⟨b, 0, none⟩) 8 8) (xs : List Int) (hl : xs.length = 8) (hv : VarAt w b (xs.map (Value.int .u8)) 5)
    (h : wpList Try.prog ops Q rest (a.put op.dst (.string (strOfNums xs))) w) : wpList Try.prog ops Q (op :: rest) a w := by
  have r := run_convert_bytes_arg (P := Try.prog) w 101 5 Try.underlying101 Try.underlying5 b 0 8 8 xs hl (fun i hi => by
    rw [Nat.zero_add]
    refine hv.cell i ?_
    simp [List.getElem?_eq_getElem (show i < xs.length by omega), List.getD]) 9 Try.underlying9
  refine wpList_step fun K hK => ?_
  rw [if_pos hw]
  unfold Oper.wp execOp
  simp only [ho, hx, Sem.run_bind, r, Result.andThen_ok, Sem.run_pure]
  exact hK _ _ h
end

set_option maxRecDepth 100000 in
set_option maxHeartbeats 1000000 in
theorem text_any (n : Int) (w : World) : Calls Try.prog 34 #[.int .i64 n] w fun e w' => e = .returned (.string (txt n)) ∧ Below w.heap.size w w' := by
  have V := hid (VarAt.new w ((txL n).map (Value.int .u8)) 5)
  go_enter Try.func34, Try.ntmps34
  go_wp2_with (refine wl_tostr _ rfl rfl w.heap.size rfl (txL n) rfl V.out ?_)
  go_ret
  exact ⟨rfl, (Below.refl _ _).alloc (Nat.le_refl _) _⟩

theorem bytes_inj : ∀ (l m : List Int), (∀ x ∈ l, 0 ≤ x ∧ x < 256) → (∀ x ∈ m, 0 ≤ x ∧ x < 256) → l.map (fun n => UInt8.ofNat n.toNat) = m.map (fun n => UInt8.ofNat n.toNat) → l = m
  | [], [], _, _, _ => rfl
  | [], _ :: _, _, _, h => by simp at h
  | _ :: _, [], _, _, h => by simp at h
  | x :: r, y :: s, h1, h2, h => by
    simp only [List.map_cons, List.cons.injEq] at h
    have a := h1 x (by simp)
    have b := h2 y (by simp)
    have e : x = y := by
      have := congrArg UInt8.toNat h.1
      simp only [UInt8.toNat_ofNat'] at this
      omega
    rw [e, bytes_inj r s (fun z hz => h1 z (by simp [hz])) (fun z hz => h2 z (by simp [hz])) h.2]

theorem txt_inj (n m : Int) (hn : -9223372036854775808 ≤ n ∧ n ≤ 9223372036854775807) (hm : -9223372036854775808 ≤ m ∧ m ≤ 9223372036854775807) (h : (txt n).toList = (txt m).toList) : n = m := by
  have wr : ∀ k : Int, IntKind.u64.wrap k = k % 18446744073709551616 := fun k => by simp [IntKind.wrap, IntKind.signed, IntKind.bits]
  have hl : ∀ k : Int, ∀ x ∈ txL k, 0 ≤ x ∧ x < 256 := by
    intro k x hx
    simp only [txL, List.mem_cons, List.not_mem_nil, or_false] at hx
    rcases hx with rfl | rfl | rfl | rfl | rfl | rfl | rfl | rfl <;> omega
  have e : txL n = txL m := by
    rw [ByteArray.toList_eq, ByteArray.toList_eq] at h
    simp only [txt, strOfNums] at h
    exact bytes_inj _ _ (hl n) (hl m) h
  simp only [txL, wr, List.cons.injEq, and_true] at e
  omega
end Go.Proofs.Ytfdfeiempeciiaa

/- The document's rows of texts, plainly. -/
namespace Go.Proofs.Ytfdfeiempeciiaa
open Go.ChangeShapes Go.WideShapes Go.ChangeAt Go.RowKit
set_option linter.unusedVariables false

def sExpr : ByteArray := { data := #[101, 120, 112, 114] }

/-- An expression's texts. -/
def Ex.texts (e : Ex) : List ByteArray := match e with
  | ⟨op, bin, n, tk, tr, nm, kids, _, _, _⟩ => [sExpr, txt op, txt bin, txt (wrap64 n), txt tk, tr, nm, txt kids.length] ++ kids.attach.flatMap (fun (x : { x // x ∈ kids }) => have := List.sizeOf_lt_of_mem x.2; x.1.texts)
theorem flatMap_att {α β : Type} (l : List α) (f : α → List β) : l.attach.flatMap (fun x => f x.1) = l.flatMap f := by
  have : ∀ k : List { x // x ∈ l }, k.flatMap (fun x => f x.1) = (k.map (·.1)).flatMap f := by
    intro k
    induction k with
    | nil => rfl
    | cons a k ih => simp only [List.flatMap_cons, List.map_cons, ih]
  rw [this, List.attach_map_subtype_val]
theorem Ex.texts_eq (e : Ex) : e.texts = [sExpr, txt e.op, txt e.bin, txt (wrap64 e.n), txt e.tk, e.tr, e.nm, txt e.kids.length] ++ e.kids.flatMap Ex.texts := by
  cases e
  rw [Ex.texts]
  exact congrArg (HAppend.hAppend _) (flatMap_att _ Ex.texts)

/-- Of texts alone: the same letters. -/
def sameT : List ByteArray → List ByteArray → Bool := eqL (fun a b => a.toList == b.toList)
theorem sameT_refl (l : List ByteArray) : sameT l l = true := by
  induction l with
  | nil => rfl
  | cons a l ih => simp [sameT, eqL] at ih ⊢; exact ih

/-- Rows that begin alike, and are as long, are alike: cut behind a first part that tells its own length. -/
theorem sameT_app {a b c d : List ByteArray} (h : a.length = b.length) : sameT (a ++ c) (b ++ d) = (sameT a b && sameT c d) := by
  induction a generalizing b with
  | nil =>
    cases b with
    | nil => simp [sameT, eqL]
    | cons y b => simp at h
  | cons x a ih =>
    cases b with
    | nil => simp at h
    | cons y b =>
      have := ih (b := b) (by simpa using h)
      simp only [sameT, List.cons_append, eqL] at this ⊢
      rw [this, Bool.and_assoc]

theorem sameT_cons (x y : ByteArray) (l m : List ByteArray) : sameT (x :: l) (y :: m) = (x.toList == y.toList && sameT l m) := rfl
theorem txt_eq (n m : Int) (hn : I64 n) (hm : I64 m) : ((txt n).toList == (txt m).toList) = (n == m) := by
  by_cases h : n = m
  · simp [h]
  · have : ¬ (txt n).toList = (txt m).toList := fun e => h (txt_inj n m hn hm e)
    rw [beq_eq_false_iff_ne.2 this, beq_eq_false_iff_ne.2 h]
theorem wrap_i64 (n : Int) : I64 (wrap64 n) := by unfold I64 wrap64; omega
theorem wrap_eq (n m : Int) (hn : U64 n) (hm : U64 m) : (wrap64 n == wrap64 m) = (n == m) := by
  unfold U64 at hn hm
  by_cases h : n = m
  · simp [h]
  · have : wrap64 n ≠ wrap64 m := by unfold wrap64; omega
    rw [beq_eq_false_iff_ne.2 this, beq_eq_false_iff_ne.2 h]

/-- Rows of what is told by texts of which each tells its own end. -/
theorem sameT_rows {α : Type} (f : α → List ByteArray) (p : α → α → Bool) (l m : List α) (hp : ∀ x ∈ l, ∀ y ∈ m, ∀ c d, sameT (f x ++ c) (f y ++ d) = (p x y && sameT c d)) (hl : l.length = m.length) (c d : List ByteArray) :
    sameT (l.flatMap f ++ c) (m.flatMap f ++ d) = (eqL p l m && sameT c d) := by
  induction l generalizing m with
  | nil =>
    cases m with
    | nil => simp [eqL]
    | cons y m => simp at hl
  | cons x l ih =>
    cases m with
    | nil => simp at hl
    | cons y m =>
      simp only [List.flatMap_cons, List.append_assoc, eqL]
      rw [hp x (by simp) y (by simp), ih m (fun a ha b hb => hp a (by simp [ha]) b (by simp [hb])) (by simpa using hl), Bool.and_assoc]

theorem len_i64 {n : Nat} (h : n < 140737488355328) : I64 (n : Int) := by unfold I64; omega

/-- Two expressions have the same texts just if they are the same. -/
theorem Ex.texts_same {w w' : World} {F G : Nat → Prop} (a : Ex) : ∀ (b : Ex), a.ok w F → b.ok w' G → ∀ c d, sameT (a.texts ++ c) (b.texts ++ d) = (a.same b && sameT c d) := by
  induction a using Ex.ind with
  | h a ih =>
    intro b ha hb c d
    obtain ⟨a1, a2, a3, a4⟩ := ha.nums
    obtain ⟨b1, b2, b3, b4⟩ := hb.nums
    have la := len_i64 ha.row.1.2
    have lb := len_i64 hb.row.1.2
    rw [Ex.texts_eq, Ex.texts_eq, Ex.same_eq]
    simp only [List.cons_append, List.nil_append, sameT_cons, txt_eq _ _ a1 b1, txt_eq _ _ a2 b2, txt_eq _ _ (wrap_i64 _) (wrap_i64 _), wrap_eq _ _ a3 b3, txt_eq _ _ a4 b4, txt_eq _ _ la lb]
    by_cases hl : a.kids.length = b.kids.length
    · rw [sameT_rows Ex.texts Ex.same a.kids b.kids (fun x hx y hy c d => ih x hx y (ha.kid x hx) (hb.kid y hy) c d) hl]
      have e : ((a.kids.length : Int) == (b.kids.length : Int)) = true := by rw [hl]; simp
      rw [e]
      simp [Bool.and_assoc]
    · have e : ((a.kids.length : Int) == (b.kids.length : Int)) = false := by
        rw [beq_eq_false_iff_ne]
        omega
      rw [e, eqL_len _ _ _ hl]
      simp
end Go.Proofs.Ytfdfeiempeciiaa

/- The document's rows of texts of statements and programs, plainly. -/
namespace Go.Proofs.Ytfdfeiempeciiaa
open Go.ChangeShapes Go.WideShapes Go.ChangeAt Go.RowKit
set_option linter.unusedVariables false

def sPlace : ByteArray := { data := #[112, 108, 97, 99, 101] }
def sRow : ByteArray := { data := #[114, 111, 119] }
def sStmt : ByteArray := { data := #[115, 116, 109, 116] }

def Pl.texts (p : Pl) : List ByteArray := [sPlace, txt p.op, p.base, p.field] ++ p.index.texts
def St.texts (s : St) : List ByteArray := match s with
  | ⟨op, nm, right, place, e, n, args, _, body, _, els, _, _, _⟩ => [sStmt, txt op, nm, txt n, txt right.op, right.nm, txt args.length] ++ (right.e.texts ++ (right.place.texts ++ (place.texts ++ (e.texts ++ (args.flatMap Ex.texts ++
    ([sRow, txt body.length] ++ (body.attach.flatMap (fun (x : { x // x ∈ body }) => have := List.sizeOf_lt_of_mem x.2; x.1.texts) ++ ([sRow, txt els.length] ++ els.attach.flatMap (fun (x : { x // x ∈ els }) => have := List.sizeOf_lt_of_mem x.2; x.1.texts))))))))) 
theorem St.texts_eq (s : St) : s.texts = [sStmt, txt s.op, s.nm, txt s.n, txt s.right.op, s.right.nm, txt s.args.length] ++ (s.right.e.texts ++ (s.right.place.texts ++ (s.place.texts ++ (s.e.texts ++ (s.args.flatMap Ex.texts ++
    ([sRow, txt s.body.length] ++ (s.body.flatMap St.texts ++ ([sRow, txt s.els.length] ++ s.els.flatMap St.texts)))))))) := by
  cases s
  rw [St.texts]
  have h1 := fun l => flatMap_att l St.texts
  simp only [h1]
def rowT (l : List St) : List ByteArray := [sRow, txt l.length] ++ l.flatMap St.texts
def namedT (l : List Nm) : List ByteArray := [txt l.length] ++ l.flatMap (fun n => [n.nm, txt n.tk, n.tr])
def Rc.texts (r : Rc) : List ByteArray := r.nm :: namedT r.fields
def Fn.texts (f : Fn) : List ByteArray := f.nm :: (namedT f.params ++ rowT f.body)
def Th.texts (t : Th) : List ByteArray := rowT t.body
def Pg.texts (p : Pg) : List ByteArray := [txt p.recs.length, txt p.funs.length, txt p.threads.length] ++ (p.recs.flatMap Rc.texts ++ (namedT p.globs ++ (p.funs.flatMap Fn.texts ++ p.threads.flatMap Th.texts)))

theorem Pl.texts_same {w w' : World} {F G : Nat → Prop} (a b : Pl) (ha : a.ok w F) (hb : b.ok w' G) (c d : List ByteArray) : sameT (a.texts ++ c) (b.texts ++ d) = (a.same b && sameT c d) := by
  simp only [Pl.texts, List.cons_append, List.nil_append, sameT_cons, txt_eq _ _ ha.1 hb.1, Ex.texts_same a.index b.index ha.2 hb.2, Pl.same, Bool.and_assoc]
  simp

theorem St.texts_same {w w' : World} {F G : Nat → Prop} (a : St) : ∀ (b : St), a.ok w F → b.ok w' G → ∀ c d, sameT (a.texts ++ c) (b.texts ++ d) = (a.same b && sameT c d) := by
  induction a using St.ind with
  | h a ih1 ih2 =>
    intro b ha hb c d
    obtain ⟨⟨a1, a2⟩, ar, ap, ae, aa, ab, ael⟩ := ha.hd
    obtain ⟨⟨b1, b2⟩, br, bp, be, ba, bb, bel⟩ := hb.hd
    have l1 := len_i64 aa.1.1.2
    have l2 := len_i64 ba.1.1.2
    have l3 := len_i64 ab.1.2
    have l4 := len_i64 bb.1.2
    have l5 := len_i64 ael.1.2
    have l6 := len_i64 bel.1.2
    rw [St.texts_eq, St.texts_eq, St.same_eq]
    simp only [List.cons_append, List.nil_append, List.append_assoc, sameT_cons, txt_eq _ _ a1 b1, txt_eq _ _ a2 b2, txt_eq _ _ ar.1 br.1, txt_eq _ _ l1 l2, Ex.texts_same a.right.e b.right.e ar.2.1 br.2.1, Pl.texts_same a.right.place b.right.place ar.2.2 br.2.2, Pl.texts_same a.place b.place ap bp, Ex.texts_same a.e b.e ae be, Rt.same]
    by_cases hl1 : a.args.length = b.args.length
    · rw [sameT_rows Ex.texts Ex.same a.args b.args (fun x hx y hy c d => Ex.texts_same x y (aa.2 x hx) (ba.2 y hy) c d) hl1]
      have e1 : ((a.args.length : Int) == (b.args.length : Int)) = true := by rw [hl1]; simp
      simp only [sameT_cons, txt_eq _ _ l3 l4]
      by_cases hl2 : a.body.length = b.body.length
      · rw [sameT_rows St.texts St.same a.body b.body (fun x hx y hy c d => ih1 x hx y (ha.bodies x hx) (hb.bodies y hy) c d) hl2]
        have e2 : ((a.body.length : Int) == (b.body.length : Int)) = true := by rw [hl2]; simp
        simp only [sameT_cons, txt_eq _ _ l5 l6]
        by_cases hl3 : a.els.length = b.els.length
        · rw [sameT_rows St.texts St.same a.els b.els (fun x hx y hy c d => ih2 x hx y (ha.elses x hx) (hb.elses y hy) c d) hl3]
          have e3 : ((a.els.length : Int) == (b.els.length : Int)) = true := by rw [hl3]; simp
          rw [e1, e2, e3]
          simp only [Bool.true_and, beq_self_eq_true]
          ac_rfl
        · have e3 : ((a.els.length : Int) == (b.els.length : Int)) = false := by
            rw [beq_eq_false_iff_ne]
            omega
          rw [e3, eqL_len St.same a.els b.els hl3]
          simp
      · have e2 : ((a.body.length : Int) == (b.body.length : Int)) = false := by
          rw [beq_eq_false_iff_ne]
          omega
        rw [e2, eqL_len St.same a.body b.body hl2]
        simp
    · have e1 : ((a.args.length : Int) == (b.args.length : Int)) = false := by
        rw [beq_eq_false_iff_ne]
        omega
      rw [e1, eqL_len Ex.same a.args b.args hl1]
      simp

theorem rowT_same {w w' : World} {F G : Nat → Prop} {v u : Value} (a b : List St) (ha : stsOk w F v a) (hb : stsOk w' G u b) (c d : List ByteArray) : sameT (rowT a ++ c) (rowT b ++ d) = (eqL St.same a b && sameT c d) := by
  simp only [rowT, List.cons_append, List.nil_append, sameT_cons, txt_eq _ _ (len_i64 ha.1.1.2) (len_i64 hb.1.1.2)]
  by_cases hl : a.length = b.length
  · rw [sameT_rows St.texts St.same a b (fun x hx y hy c d => St.texts_same x y (ha.2 x hx) (hb.2 y hy) c d) hl]
    have e : ((a.length : Int) == (b.length : Int)) = true := by rw [hl]; simp
    rw [e]
    simp
  · have e : ((a.length : Int) == (b.length : Int)) = false := by
      rw [beq_eq_false_iff_ne]
      omega
    rw [e, eqL_len St.same a b hl]
    simp

theorem namedT_same {w w' : World} {F G : Nat → Prop} {v u : Value} (a b : List Nm) (ha : nmsOk w F v a) (hb : nmsOk w' G u b) (c d : List ByteArray) : sameT (namedT a ++ c) (namedT b ++ d) = (eqL Nm.same a b && sameT c d) := by
  simp only [namedT, List.cons_append, List.nil_append, sameT_cons, txt_eq _ _ (len_i64 ha.1.1.2) (len_i64 hb.1.1.2)]
  by_cases hl : a.length = b.length
  · rw [sameT_rows (fun n => [n.nm, txt n.tk, n.tr]) Nm.same a b (fun x hx y hy c d => by
      simp only [List.cons_append, List.nil_append, sameT_cons, txt_eq _ _ (ha.2 x hx) (hb.2 y hy), Nm.same, Bool.and_assoc]) hl]
    have e : ((a.length : Int) == (b.length : Int)) = true := by rw [hl]; simp
    rw [e]
    simp
  · have e : ((a.length : Int) == (b.length : Int)) = false := by
      rw [beq_eq_false_iff_ne]
      omega
    rw [e, eqL_len Nm.same a b hl]
    simp

/-- Two programs have the same texts just if they are the same. -/
theorem Pg.texts_same {w w' : World} {F G : Nat → Prop} (a b : Pg) (ha : a.ok w F) (hb : b.ok w' G) : sameT a.texts b.texts = a.same b := by
  obtain ⟨⟨a1, a2⟩, a3, ⟨a4, a5⟩, a6, a7⟩ := ha
  obtain ⟨⟨b1, b2⟩, b3, ⟨b4, b5⟩, b6, b7⟩ := hb
  simp only [Pg.texts, List.cons_append, List.nil_append, sameT_cons, txt_eq _ _ (len_i64 a1.1.2) (len_i64 b1.1.2), txt_eq _ _ (len_i64 a4.1.2) (len_i64 b4.1.2), txt_eq _ _ (len_i64 a6.1.2) (len_i64 b6.1.2), Pg.same]
  have neq : ∀ n m : Nat, n ≠ m → ((n : Int) == (m : Int)) = false := fun n m h => by
    rw [beq_eq_false_iff_ne]
    omega
  by_cases h1 : a.recs.length = b.recs.length
  · by_cases h2 : a.funs.length = b.funs.length
    · by_cases h3 : a.threads.length = b.threads.length
      · rw [sameT_rows Rc.texts Rc.same a.recs b.recs (fun x hx y hy c d => by
            simp only [Rc.texts, List.cons_append, sameT_cons, namedT_same x.fields y.fields (a2 x hx) (b2 y hy), Rc.same, Bool.and_assoc]) h1,
          namedT_same a.globs b.globs a3 b3,
          sameT_rows Fn.texts Fn.same a.funs b.funs (fun x hx y hy c d => by
            simp only [Fn.texts, List.cons_append, List.append_assoc, sameT_cons, namedT_same x.params y.params (a5 x hx).1 (b5 y hy).1, rowT_same x.body y.body (a5 x hx).2 (b5 y hy).2, Fn.same, Bool.and_assoc]) h2]
        have e := sameT_rows Th.texts Th.same a.threads b.threads (fun x hx y hy c d => by
            simp only [Th.texts, rowT_same x.body y.body (a7 x hx) (b7 y hy), Th.same]) h3 [] []
        rw [List.append_nil, List.append_nil] at e
        rw [e, h1, h2, h3]
        simp [sameT, eqL]
      · rw [neq _ _ h3, eqL_len Th.same _ _ h3]
        simp
    · rw [neq _ _ h2, eqL_len Fn.same _ _ h2]
      simp
  · rw [neq _ _ h1, eqL_len Rc.same _ _ h1]
    simp
end Go.Proofs.Ytfdfeiempeciiaa

/- The contract of the document's Same: two rows of texts. -/
namespace Go.Proofs.Ytfdfeiempeciiaa
open Go.ChangeShapes Go.WideShapes Go.ChangeAt Go.RowKit
set_option linter.unusedVariables false

/-- A row of texts. -/
def strC (s : ByteArray) : List Value := [.string s]
def strsAt (w : World) (F : Nat → Prop) (v : Value) (l : List ByteArray) : Prop := RowAt w F 1 v l.length (l.flatMap strC)
theorem strsAt.get {w : World} {F : Nat → Prop} {v : Value} {l : List ByteArray} (h : strsAt w F v l) {k : Nat} {x : ByteArray} (hk : l[k]? = some x) : ∃ g cap, v = .slice (some ⟨g, 0, none⟩) l.length cap ∧ w.cell? ⟨g, k, none⟩ = some (.string x) := by
  obtain ⟨g, cap, e, _, _, r⟩ := RowAt.elem (f := strC) (s := 1) (fun _ => rfl) h hk
  exact ⟨g, cap, e, by have := r 0 _ rfl; simpa using this⟩

set_option maxRecDepth 100000 in
set_option maxHeartbeats 1000000 in
theorem refSame_any (l m : List ByteArray) (v u : Value) (w : World) (F G : Nat → Prop) (hl : strsAt w F v l) (hm : strsAt w G u m) :
    Calls Try.prog 10 #[v, u] w fun e w' => e = .returned (.bool (sameT l m)) ∧ Below w.heap.size w w' := by
  have hn := hl.1.2
  have hn2 := hm.1.2
  obtain ⟨pv, cv, rfl⟩ := hl.form
  by_cases hlm : l.length = m.length
  · obtain ⟨pu, cu, rfl⟩ : ∃ p c, u = .slice p l.length c := by rw [hlm]; exact hm.form
    have EA := hid (eqL_all (fun (a b : ByteArray) => a.toList == b.toList) l m hlm)
    have EN := hid (eqL_not (fun (a b : ByteArray) => a.toList == b.toList) l m)
    have ES : Hid (sameT l m = eqL (fun (a b : ByteArray) => a.toList == b.toList) l m) := hid rfl
    generalize sameT l m = R at *
    have HL := hid hlm
    clear hlm
    go_enter Try.func10, Try.ntmps10
    go_wp2_with fail
    go_loopw [13] (fun i wr => ∃ k : Nat, k ≤ l.length ∧ i = .int .i64 k ∧ Hid (Below w.heap.size w wr ∧ ∀ (j : Nat) (x y : ByteArray), j < k → l[j]? = some x → m[j]? = some y → (x.toList == y.toList) = true)) (fun i _ => l.length - (intOf i).toNat)
    case atStart => exact ⟨0, Nat.zero_le _, rfl, hid ⟨Below.refl _ _, by intro j x y hj; omega⟩⟩
    case round =>
      obtain ⟨k, hk, rfl, hat⟩ := hrel
      by_cases hlt : k < l.length
      · obtain ⟨x, hx⟩ : ∃ x, l[k]? = some x := ⟨_, List.getElem?_eq_getElem hlt⟩
        obtain ⟨y, hy⟩ : ∃ y, m[k]? = some y := ⟨_, List.getElem?_eq_getElem (by have := HL.out; omega)⟩
        obtain ⟨g1, c1, e1, r1⟩ := strsAt.get (hl.kept hat.out.1) hx
        obtain ⟨g2, c2, e2, r2⟩ := strsAt.get (hm.kept hat.out.1) hy
        replace e1 := (Value.slice.inj e1).1
        replace e2 := (Value.slice.inj e2).1
        subst e1
        subst e2
        replace hx := hid hx
        replace hy := hid hy
        clear hl hm
        have hk0 : (0 : Int) ≤ (k : Int) := Int.natCast_nonneg _
        have hk1 : (k : Int) < (l.length : Int) := by omega
        cases hp : (x.toList == y.toList)
        all_goals
          go_wp2_with fail
          go_quiet (fail)
          go_wp2_with fail
        · go_ret
          exact ⟨ret_bool (by rw [ES.out]; exact (EN.out k x y hx.out hy.out hp).symm), (⟨hat.out.1.os, hat.out.1.tape, hat.out.1.output, hat.out.1.size, hat.out.1.block⟩ : Below w.heap.size w (wr.drewN nq))⟩
        · go_roundw
          case rel =>
            refine ⟨k + 1, by omega, by go_num, hid ⟨(⟨hat.out.1.os, hat.out.1.tape, hat.out.1.output, hat.out.1.size, hat.out.1.block⟩ : Below w.heap.size w (wr.drewN nq)), fun j x' y' hj hx' hy' => ?_⟩⟩
            by_cases e : j = k
            · subst e
              have e1 := hx.out
              have e2 := hy.out
              rw [hx'] at e1
              rw [hy'] at e2
              cases e1
              cases e2
              exact hp
            · exact hat.out.2 j x' y' (by omega) hx' hy'
          case measure => simp [intOf]; omega
      · go_wp2_with fail
        go_ret
        have hkl : l.length = k := by omega
        exact ⟨ret_bool (by rw [ES.out]; exact (EA.out fun i x y hx hy => hat.out.2 i x y (by have := (List.getElem?_eq_some_iff.1 hx).1; omega) hx hy).symm), hat.out.1⟩
  · obtain ⟨pu, cu, rfl⟩ := hm.form
    have : sameT l m = false := eqL_len _ l m hlm
    go_enter Try.func10, Try.ntmps10
    go_wp2_with fail
    go_ret
    exact ⟨ret_bool this.symm, Below.refl _ _⟩
end Go.Proofs.Ytfdfeiempeciiaa

/- Rows of texts that grow. -/
namespace Go.Proofs.Ytfdfeiempeciiaa
open Go.ChangeShapes Go.WideShapes Go.ChangeAt Go.RowKit
set_option linter.unusedVariables false

/-- A row of texts of a call's own. -/
structure Txts (w wr : World) (v : Value) (l : List ByteArray) : Prop where
  own : wr.ownsRow w.heap.size 9 1 v l.length (l.flatMap strC)
  bel : Below w.heap.size w wr
theorem info9z : (Try.prog.info? 9).map (fun i => (i.zero, i.size, i.bytes)) = some (some (.string { data := #[] }), 1, 16) := by kernel_rfl
theorem strs_one (l : List ByteArray) : ∀ x ∈ l.flatMap strC, x.oneCell' = true := fun x hx => by
  obtain ⟨s, hs, hx⟩ := List.mem_flatMap.1 hx
  simp only [strC, List.mem_cons, List.not_mem_nil, or_false] at hx
  subst hx
  rfl
theorem Txts.row {w wr : World} {v : Value} {l : List ByteArray} (h : Txts w wr v l) (hl : l.length ≤ 2000000) : strsAt wr (fun _ => True) v l := RowAt.of_owns h.own (by omega) (fun _ _ => trivial)
theorem below_drew {B : Nat} {a w : World} (h : Below B a w) : Below B a w.drew := ⟨h.os, h.tape, h.output, h.size, h.block⟩
theorem below_undrew {w w' : World} (h : Below w.drew.heap.size w.drew w') : Below w.heap.size w w' := ⟨h.os, h.tape, h.output, h.size, h.block⟩
theorem Txts.keep {w wr w1 : World} {v : Value} {l : List ByteArray} (h : Txts w wr v l) (b : Below wr.heap.size wr w1) : Txts w w1 v l := ⟨own_keep h.own (fun g _ hl => b.block g hl), Below.over h.bel b⟩
theorem Txts.app {w w1 w2 : World} {v v' : Value} {l m : List ByteArray} (h : Txts w w1 v l) (own2 : w2.ownsRow w.heap.size 9 1 v' (l.length + m.length) (l.flatMap strC ++ m.flatMap strC)) (g2 : w1.grownBy w2 v.ownBlock) : Txts w w2 v' (l ++ m) :=
  ⟨by simpa using own2, h.bel.trans ((Touch.of_grown (T := fun b => w.heap.size ≤ b) g2 (fun b hb => (own_lt h.own hb).1)).below (fun b hb => ⟨by have := h.bel.size; omega, by omega⟩))⟩
/-- A row of texts made just now. -/
theorem Txts.made {w wr : World} (l : List ByteArray) (h : Below w.heap.size w wr) (hl : l.length ≤ 1000) : Txts w (wr.alloc (.cells (l.flatMap strC).toArray 9)) (.slice (some ⟨wr.heap.size, 0, none⟩) l.length l.length) l :=
  ⟨⟨by simp [flat_len strC 1 (fun _ => rfl)], .inr ⟨wr.heap.size, l.length, (l.flatMap strC).toArray, rfl, h.size, heap_alloc_new _ _, Nat.le_refl _, by simp only [maxLen]; omega, by simp [flat_len strC 1 (fun _ => rfl)], by simp only [Nat.mul_one]; exact List.take_of_length_le (by simp [flat_len strC 1 (fun _ => rfl)])⟩⟩, h.alloc h.size _⟩

/-- A row grew: in its place, or into a new block. -/
structure Grew (w w' : World) (v v' : Value) : Prop where
  by_ : w.grownBy w' v.ownBlock
  blk : v'.ownBlock = v.ownBlock ∨ v'.ownBlock = some w.heap.size
theorem Grew.var {w w' : World} {v v' : Value} {b : Nat} {cs : List Value} {t : TypeId} (h : Grew w w' v v') (hb : VarAt w b cs t) (hv : v.ownBlock ≠ some b) : VarAt w' b cs t := (h.by_.block b hb.lt (fun e => hv e.symm)).trans hb
theorem Grew.far {w w' : World} {v v' : Value} {b : Nat} (h : Grew w w' v v') (hb : b < w.heap.size) (hv : v.ownBlock ≠ some b) : v'.ownBlock ≠ some b := fun e => by
  rcases h.blk with k | k
  · exact hv (k ▸ e)
  · rw [k] at e
    simp at e
    omega
section
variable {w : World} {ops : Array Oper} {rest : List Oper} {o : Oper} {a : Act} {Q : Exit → Act → World → Prop}
/-- out = append(out, texts...) -/
theorem wl_app {w0 : World} (hgd : o.guard = none) (s x : Operand) (ho : o.op = .call { callee := .builtin .append, args := #[s, x], argTypes := #[33, 33] })
    (v : Value) (hs : a.eval s = v) (l : List ByteArray) (hv : Txts w0 w v l) (u : Value) (hx : a.eval x = u) (F : Nat → Prop) (m : List ByteArray) (hu : strsAt w F u m) (hn : l.length + m.length ≤ 2000000)
    (h : ∀ p c w', Txts w0 w' (.slice p (l.length + m.length) c) (l ++ m) → Grew w w' v (.slice p (l.length + m.length) c) → wpList Try.prog ops Q rest (a.put o.dst (.slice p (l.length + m.length) c)) w') : wpList Try.prog ops Q (o :: rest) a w := by
  refine wl_append_row hgd s x 33 ho w0.heap.size 9 _ 1 16 Try.underlying33 info9z rfl (by omega) v hs l.length _ hv.own u hx F m.length _ hu (strs_one m) hn (by omega) hv.bel.size ?_
  intro v' w' h2 h3 h4
  obtain ⟨p, c, rfl⟩ := own_slice h2
  exact h p c w' (hv.app h2 h3) ⟨h3, h4⟩
end
section
variable {w : World} {ops : Array Oper} {o : Oper} {a : Act} {K : Act → World → Prop} {Q : Exit → Act → World → Prop} {E : Prop}
theorem step_app {w0 : World} (hgd : o.guard = none) (s x : Operand) (ho : o.op = .call { callee := .builtin .append, args := #[s, x], argTypes := #[33, 33] })
    (v : Value) (hs : a.eval s = v) (l : List ByteArray) (hv : Txts w0 w v l) (u : Value) (hx : a.eval x = u) (F : Nat → Prop) (m : List ByteArray) (hu : strsAt w F u m) (hn : l.length + m.length ≤ 2000000)
    (h : ∀ p c w', Txts w0 w' (.slice p (l.length + m.length) c) (l ++ m) → Grew w w' v (.slice p (l.length + m.length) c) → K (a.put o.dst (.slice p (l.length + m.length) c)) w') : if Region.wanted o (yielded ops a.tmps) = true then Oper.wp Try.prog o a w K Q else E := by
  refine step_append_row hgd s x 33 ho w0.heap.size 9 _ 1 16 Try.underlying33 info9z rfl (by omega) v hs l.length _ hv.own u hx F m.length _ hu (strs_one m) hn (by omega) hv.bel.size ?_
  intro v' w' h2 h3 h4
  obtain ⟨p, c, rfl⟩ := own_slice h2
  exact h p c w' (hv.app h2 h3) ⟨h3, h4⟩
end
/-- out = append(out, texts...), the new row under names of its own. -/
theorem wl_app2 {w0 w : World} {ops : Array Oper} {rest : List Oper} {o : Oper} {a : Act} {Q : Exit → Act → World → Prop} (hgd : o.guard = none) (s x : Operand) (ho : o.op = .call { callee := .builtin .append, args := #[s, x], argTypes := #[33, 33] })
    (v : Value) (hs : a.eval s = v) (l : List ByteArray) (hv : Txts w0 w v l) (u : Value) (hx : a.eval x = u) (F : Nat → Prop) (m : List ByteArray) (hu : strsAt w F u m) (hn : l.length + m.length ≤ 2000000)
    (h : ∀ p c w' (n' : Nat) (L' : List ByteArray), Hid (L' = l ++ m) → Hid (Txts w0 w' (.slice p n' c) L') → Hid (Grew w w' v (.slice p n' c)) → wpList Try.prog ops Q rest (a.put o.dst (.slice p n' c)) w') : wpList Try.prog ops Q (o :: rest) a w :=
  wl_app hgd s x ho v hs l hv u hx F m hu hn fun p c w' h1 h2 => h p c w' _ _ (hid rfl) (hid h1) (hid h2)
theorem step_app2 {w0 w : World} {ops : Array Oper} {o : Oper} {a : Act} {K : Act → World → Prop} {Q : Exit → Act → World → Prop} {E : Prop} (hgd : o.guard = none) (s x : Operand) (ho : o.op = .call { callee := .builtin .append, args := #[s, x], argTypes := #[33, 33] })
    (v : Value) (hs : a.eval s = v) (l : List ByteArray) (hv : Txts w0 w v l) (u : Value) (hx : a.eval x = u) (F : Nat → Prop) (m : List ByteArray) (hu : strsAt w F u m) (hn : l.length + m.length ≤ 2000000)
    (h : ∀ p c w' (n' : Nat) (L' : List ByteArray), Hid (L' = l ++ m) → Hid (Txts w0 w' (.slice p n' c) L') → Hid (Grew w w' v (.slice p n' c)) → K (a.put o.dst (.slice p n' c)) w') : if Region.wanted o (yielded ops a.tmps) = true then Oper.wp Try.prog o a w K Q else E :=
  step_app hgd s x ho v hs l hv u hx F m hu hn fun p c w' h1 h2 => h p c w' _ _ (hid rfl) (hid h1) (hid h2)
/-- A row that grows beside a box. -/
structure Beside (w wr : World) (v : Value) (l : List ByteArray) (b : Nat) (cs : List Value) (t : TypeId) : Prop where
  txts : Txts w wr v l
  box : VarAt wr b cs t
  far : v.ownBlock ≠ some b
theorem Beside.keep {w wr w1 : World} {v : Value} {l : List ByteArray} {b : Nat} {cs : List Value} {t : TypeId} (h : Beside w wr v l b cs t) (k : Below wr.heap.size wr w1) : Beside w w1 v l b cs t := ⟨h.txts.keep k, h.box.kept k, h.far⟩
theorem Beside.grew {w wr w1 : World} {v v' : Value} {l l' : List ByteArray} {b : Nat} {cs : List Value} {t : TypeId} (h : Beside w wr v l b cs t) (k : Txts w w1 v' l') (g : Grew wr w1 v v') : Beside w w1 v' l' b cs t := ⟨k, g.var h.box h.far, g.far h.box.lt h.far⟩
theorem take_flat {α β : Type} (f : α → List β) (l : List α) (k : Nat) (x : α) (h : l[k]? = some x) : (l.take (k + 1)).flatMap f = (l.take k).flatMap f ++ f x := by
  have hk := (List.getElem?_eq_some_iff.1 h).1
  rw [List.take_add_one, h]
  simp
theorem take_len {α β : Type} (f : α → List β) (l : List α) (k : Nat) (x : α) (h : l[k]? = some x) : ((l.take k).flatMap f).length + (f x).length ≤ (l.flatMap f).length := by
  have e : l.flatMap f = (l.take (k + 1)).flatMap f ++ (l.drop (k + 1)).flatMap f := by rw [← List.flatMap_append, List.take_append_drop]
  rw [e, take_flat f l k x h]
  simp only [List.length_append]
  omega
end Go.Proofs.Ytfdfeiempeciiaa
