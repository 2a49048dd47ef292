/- The contracts of ownKids and of ownRow, of expressions. -/
import Derived.Test.YtfdfeiempeciiaaClone
import Derived.Test.YtfdfeiempeciiaaJoinC
import Derived.Test.YtfdfeiempeciiaaMakeM
import Derived.Deep.CutBlock
import Derived.Deep.CutRange
import Derived.Deep.DeepCutAuto
namespace Go.Proofs.Ytfdfeiempeciiaa
open Go.ChangeShapes Go.WideShapes Go.ChangeAt Go.RowKit
set_option linter.unusedVariables false

theorem flat_set2 {α : Type} (f : α → List Value) (s : Nat) (hs : ∀ x, (f x).length = s) (l : List α) (k : Nat) (x x' : α) (hk : l[k]? = some x) (j : Nat) (v : Value) (hj : j < s) (he : f x' = (f x).set j v) : (l.set k x').flatMap f = (l.flatMap f).set (k * s + j) v := by
  induction l generalizing k with
  | nil => simp at hk
  | cons a l ih =>
    cases k with
    | zero =>
      simp only [List.length_cons, Nat.zero_lt_succ, List.getElem?_eq_getElem, List.getElem_cons_zero, Option.some.injEq] at hk
      subst hk
      simp only [List.set_cons_zero, List.flatMap_cons, he, Nat.zero_mul, Nat.zero_add]
      rw [List.set_append_left _ _ (by rw [hs]; exact hj)]
    | succ k =>
      have e : (k + 1) * s + j - s = k * s + j := by rw [Nat.add_mul]; omega
      simp only [List.set_cons_succ, List.flatMap_cons]
      rw [ih k (by simpa using hk), List.set_append_right _ _ (by rw [hs, Nat.add_mul]; omega), hs, e]
theorem info44 : (Try.prog.info? 44).map (·.size) = some 1 := by kernel_rfl

/-- What is asked of ownKids on an expression, wherever it lies. -/
def KidsOk (e : Ex) : Prop := ∀ (w : World) (F : Nat → Prop) (b o : Nat) (cs : List Value) (t : TypeId), VarAt w b cs t → o + 9 ≤ cs.length → w.rangeAt b o e.cells → e.ok w F → e.texts.length ≤ 2000000 →
  Calls Try.prog 56 #[.pointer (some ⟨b, o, none⟩)] w fun r w' => r = .returned (.tuple #[]) ∧ ∃ e' : Ex, e'.bare = e.bare ∧ e'.cells = e.cells.set 6 e'.kv ∧ e'.ok w' (fun g => w.heap.size ≤ g) ∧ VarAt w' b (cs.set (o + 6) e'.kv) t ∧ Touch (fun g => g = b) w w'
/-- A row of its own, bare the same. -/
def OwnRowE (l : List Ex) : Prop := ∀ (v : Value) (w : World) (F : Nat → Prop), exsOk w F v l → (l.flatMap Ex.texts).length ≤ 2000000 →
  Calls Try.prog 57 #[v, .func (.func 56) #[] #[]] w fun r w' => ∃ (p : Option Addr) (n c : Nat) (l' : List Ex), r = .returned (.slice p n c) ∧ l'.map Ex.bare = l.map Ex.bare ∧ w'.ownsRow w.heap.size 46 9 (.slice p n c) l'.length (l'.flatMap Ex.cells) ∧ (∀ k ∈ l', k.ok w' (fun g => w.heap.size ≤ g ∧ (Value.slice p n c).ownBlock ≠ some g)) ∧ Below w.heap.size w w'
theorem exs_len (l : List Ex) : l.length * 8 ≤ (l.flatMap Ex.texts).length := by
  induction l with
  | nil => simp
  | cons a l ih =>
    have : 8 ≤ a.texts.length := by rw [Ex.texts_eq]; simp
    simp only [List.length_cons, List.flatMap_cons, List.length_append, Nat.add_mul]
    omega

set_option maxRecDepth 100000 in
set_option maxHeartbeats 1000000 in
theorem ownKids_step (e : Ex) (H : OwnRowE e.kids) : KidsOk e := by
  intro w F b o cs t hV hlen hr hok htx
  obtain ⟨p, c, hkv⟩ := hok.row.form
  have ck : w.cell? ⟨b, o + 6, none⟩ = some (.slice p e.kids.length c) := by rw [← hkv]; exact hr 6 e.kv rfl
  have C := H e.kv w F ⟨hok.row, hok.kid⟩ (by rw [Ex.texts_eq] at htx; simp only [List.length_append] at htx; omega)
  rw [hkv] at C
  replace C := hid C
  have zb := hV.lt
  replace hV := hid hV
  have he := hid hok
  clear hr hkv hok
  go_enter Try.func56, Try.ntmps56
  go_wp2_with (first
    | (go_at_call 57
       refine C.out.mono ?_
       rintro r w1 ⟨p1, n1, c1, l', rfl, hb, ho, hk, bel⟩
       replace hV := hid (hV.out.kept bel)
       replace ho := hid ho
       replace hk := hid hk
       replace hb := hid hb
       replace bel := hid bel)
    | (refine wl_store_cell 44 _ _ rfl rfl b (o + 6) rfl (.slice p1 n1 c1) rfl info44 rfl cs t hV.out (by omega) ?_
       intro w2 hv2 t2
       replace hv2 := hid hv2
       replace t2 := hid t2))
  go_end0
  have hl := congrArg List.length hb.out
  simp only [List.length_map] at hl
  have hx := exs_len e.kids
  have hlt := htx
  rw [Ex.texts_eq] at hlt
  simp only [List.length_append] at hlt
  have hR : RowAt w1 (fun g => w.heap.size ≤ g) 9 (.slice p1 n1 c1) l'.length (l'.flatMap Ex.cells) := RowAt.of_owns ho.out (by omega) (fun g hg => (own_lt ho.out hg).1)
  have keep : ∀ g, w.heap.size ≤ g → g < w1.heap.size → w2.heap[g]? = w1.heap[g]? := fun g h1 h2 => t2.out.block g h2 (by omega)
  refine ⟨rfl, { e with kids := l', kv := .slice p1 n1 c1 }, ?_, rfl, (Ex.ok_iff _ _ _).2 ⟨he.out.nums, hR.keep keep, fun k hm => ((hk.out k hm).keep (fun g hg hl => keep g hg.1 hl)).mono (fun g hg _ => hg.1)⟩, hv2.out, (Touch.of_below bel.out).trans t2.out⟩
  rw [Ex.bare_eq, Ex.bare_eq]
  simp only [hb.out]

theorem bare_len {l l' : List Ex} (h : l'.map Ex.bare = l.map Ex.bare) : l'.length = l.length := by
  have := congrArg List.length h
  simpa using this
theorem mem_take_len {α β : Type} (g : α → List β) (l : List α) (k : Nat) (x : α) (h : l[k]? = some x) : (g x).length ≤ (l.flatMap g).length := by
  have := take_len g l k x h
  omega

/-- While ownRow goes on. -/
structure OwnAt (w wr : World) (F : Nat → Prop) (l : List Ex) (k : Nat) (l1 : List Ex) (p : Option Addr) (n c : Nat) : Prop where
  own : wr.ownsRow w.heap.size 46 9 (.slice p n c) l.length ((l1 ++ l.drop k).flatMap Ex.cells)
  len : l1.length = k
  bare : l1.map Ex.bare = (l.take k).map Ex.bare
  ok : ∀ x ∈ l1, x.ok wr (fun g => w.heap.size ≤ g ∧ (Value.slice p n c).ownBlock ≠ some g)
  bel : Below w.heap.size w wr

set_option maxRecDepth 100000 in
set_option maxHeartbeats 1000000 in
theorem ownRowE_step (l : List Ex) (ih : ∀ e ∈ l, KidsOk e) : OwnRowE l := by
  intro v w F hv hlen
  have hx := exs_len l
  have C := hid (clone59 l v w F hv (by omega))
  obtain ⟨p0, c0, rfl⟩ := hv.1.form
  replace hv := hid hv
  go_enter Try.func57, Try.ntmps57
  go_wp2_with fail
  refine C.out.mono ?_
  rintro r w1 ⟨p, c, rfl, o1, b1⟩
  have A : Hid (OwnAt w w1 F l 0 [] p l.length c) := hid ⟨by simpa using o1, rfl, by simp, by simp, b1⟩
  clear C o1 b1
  have hll : l.length ≤ 1000000 := by omega
  clear hx
  go_wp2_with fail
  go_loopw [11] (fun vi wr => ∃ (k : Nat) (l1 : List Ex), k ≤ l.length ∧ vi = .int .i64 k ∧ Hid (OwnAt w wr F l k l1 p l.length c)) (fun vi _ => l.length - (intOf vi).toNat)
  case atStart => exact ⟨0, [], Nat.zero_le _, rfl, A⟩
  case round =>
    obtain ⟨k, l1, hk, rfl, hat⟩ := hrel
    clear A
    by_cases hlt : k < l.length
    · obtain ⟨x, hx⟩ : ∃ x, l[k]? = some x := ⟨_, List.getElem?_eq_getElem hlt⟩
      have hm := List.mem_of_getElem? hx
      have hcur : (l1 ++ l.drop k)[k]? = some x := by
        rw [List.getElem?_append_right (by rw [hat.out.len]; omega), hat.out.len, Nat.sub_self, List.getElem?_drop, Nat.add_zero]
        exact hx
      rcases hat.out.own.2 with ⟨_, h0⟩ | ⟨g, cap, cur, ev, hbg, hg, hnc, hcm, hcs, htk⟩
      · omega
      · obtain ⟨rfl, -, rfl⟩ := Value.slice.inj ev
        have hV : VarAt wr g cur.toList 46 := by simpa [VarAt] using hg
        have zg := hV.lt
        have hrg : wr.rangeAt g (k * 9) x.cells := fun j u hu => by
          refine hV.cell (k * 9 + j) ?_
          have := flat_get Ex.cells 9 Ex.len (l1 ++ l.drop k) k x hcur j u hu
          rw [← htk, List.getElem?_take] at this
          split at this
          · exact this
          · simp at this
        have hroom : k * 9 + 9 ≤ cur.toList.length := by
          have h2 : (k + 1) * 9 ≤ c * 9 := Nat.mul_le_mul_right 9 (by omega)
          rw [Nat.add_mul] at h2
          simp
          omega
        have hxt := mem_take_len Ex.texts l k x hx
        have C := hid (ih x hm wr F g (k * 9) cur.toList 46 hV hroom hrg ((hv.out.2 x hm).kept hat.out.bel) (by omega))
        have hk0 : (0 : Int) ≤ (k : Int) := Int.natCast_nonneg _
        have hk1 : (k : Int) < (l.length : Int) := by omega
        replace hcur := hid hcur
        replace htk := hid htk
        replace hx := hid hx
        replace hcs := hid hcs
        clear hV hrg hg
        go_wp2_with (go_at_call 56; refine C.out.mono ?_; rintro r w2 ⟨rfl, x', xb, xc, xo, xv, xt⟩; replace xb := hid xb; replace xc := hid xc; replace xo := hid xo; replace xv := hid xv; replace xt := hid xt)
        go_roundw
        case rel =>
          have zl := hat.out.len
          have zs := hat.out.bel.size
          have eset : (l1 ++ l.drop k).set k x' = (l1 ++ [x']) ++ l.drop (k + 1) := by
            rw [List.set_append_right _ _ (by omega), zl, Nat.sub_self, List.drop_eq_getElem_cons hlt, List.set_cons_zero, List.append_assoc]
            rfl
          refine ⟨k + 1, l1 ++ [x'], by omega, by go_num, hid ⟨⟨?_, .inr ⟨g, c, (cur.toList.set (k * 9 + 6) x'.kv).toArray, rfl, hbg, xv.out, hnc, hcm, by simpa using hcs.out, ?_⟩⟩, by simp [zl], ?_, ?_, ?_⟩⟩
          · rw [← eset, flat_len Ex.cells 9 Ex.len]
            simp [zl]
            omega
          · rw [← eset, flat_set2 Ex.cells 9 Ex.len _ k x x' hcur.out 6 x'.kv (by omega) xc.out, ← htk.out]
            rw [List.take_set]
          · rw [List.map_append, hat.out.bare, List.take_add_one, hx.out]
            simp [xb.out]
          · intro y hy
            simp only [List.mem_append, List.mem_cons, List.not_mem_nil, or_false] at hy
            rcases hy with hy | rfl
            · refine (hat.out.ok y hy).keep (fun b hb hl => xt.out.block b hl (fun e => hb.2 (by rw [e]; rfl)))
            · refine xo.out.mono (fun b hb hl => ⟨by omega, fun e => ?_⟩)
              simp only [Value.ownBlock, Option.some.injEq] at e
              omega
          · exact hat.out.bel.trans (xt.out.below (fun i hi => ⟨by omega, by omega⟩))
        case measure => simp [intOf]; omega
    · have hkl : k = l.length := by omega
      subst hkl
      go_wp2_with fail
      go_ret
      have e1 : l1 ++ l.drop l.length = l1 := by simp
      refine ⟨p, l.length, c, l1, rfl, by simpa using hat.out.bare, ?_, hat.out.ok, hat.out.bel⟩
      have := hat.out.own
      rw [e1] at this
      rw [hat.out.len]
      exact this

theorem ownKids_any (e : Ex) : KidsOk e := by
  induction e using Ex.ind with
  | h e ih => exact ownKids_step e (ownRowE_step e.kids ih)
theorem ownRowE_any (l : List Ex) : OwnRowE l := ownRowE_step l (fun e _ => ownKids_any e)
end Go.Proofs.Ytfdfeiempeciiaa

/- The contracts of ownParts, ownRow and ownStmts, of statements. -/
namespace Go.Proofs.Ytfdfeiempeciiaa
open Go.ChangeShapes Go.WideShapes Go.ChangeAt Go.RowKit
set_option linter.unusedVariables false

/-- What is asked of ownParts on a statement, wherever it lies. -/
def PartsOk (s : St) : Prop := ∀ (w : World) (F : Nat → Prop) (b o : Nat) (cs : List Value) (t : TypeId), VarAt w b cs t → o + 58 ≤ cs.length → w.rangeAt b o s.cells → s.ok w F → (∀ g, F g → g ≠ b) → s.texts.length ≤ 2000000 →
  Calls Try.prog 49 #[.pointer (some ⟨b, o, none⟩)] w fun r w' => r = .returned (.tuple #[]) ∧ ∃ s' : St, s'.bare = s.bare ∧ s'.ok w' (fun g => w.heap.size ≤ g) ∧ VarAt w' b (splice cs o s'.cells) t ∧ Touch (fun g => g = b) w w'
/-- A row of its own, bare the same. -/
def OwnRowS (l : List St) : Prop := ∀ (v : Value) (w : World) (F : Nat → Prop), stsOk w F v l → (rowT l).length ≤ 2000000 →
  Calls Try.prog 46 #[v] w fun r w' => ∃ (p : Option Addr) (n c : Nat) (l' : List St), r = .returned (.slice p n c) ∧ l'.map St.bare = l.map St.bare ∧ w'.ownsRow w.heap.size 52 58 (.slice p n c) l'.length (l'.flatMap St.cells) ∧ (∀ k ∈ l', k.ok w' (fun g => w.heap.size ≤ g ∧ (Value.slice p n c).ownBlock ≠ some g)) ∧ Below w.heap.size w w'

/-- A statement that lies in a block, the rest of which is as it was. -/
structure Lay (w wr : World) (b o : Nat) (cs : List Value) (t : TypeId) (s : St) : Prop where
  var : VarAt wr b (splice cs o s.cells) t
  touch : Touch (fun g => g = b) w wr
  room : o + 58 ≤ cs.length
theorem info35' : (Try.prog.info? 35).map (·.size) = some 1 := by kernel_rfl
theorem splice_get {cs : List Value} {o : Nat} {ds : List Value} (h : o + ds.length ≤ cs.length) (j : Nat) {v : Value} (hv : ds[j]? = some v) : (splice cs o ds)[o + j]? = some v := by
  have hj := (List.getElem?_eq_some_iff.1 hv).1
  rw [splice_eq ds o cs h, List.getElem?_append_right (by simp; omega)]
  have e : o + j - (cs.take o).length = j := by simp; omega
  rw [e, List.getElem?_append_left hj]
  exact hv
theorem splice_set {cs : List Value} {o : Nat} {ds : List Value} (h : o + ds.length ≤ cs.length) (j : Nat) (hj : j < ds.length) (v : Value) : (splice cs o ds).set (o + j) v = splice cs o (ds.set j v) := by
  rw [splice_eq ds o cs h, splice_eq (ds.set j v) o cs (by simpa using h), List.set_append_right _ _ (by simp; omega)]
  have e : o + j - (cs.take o).length = j := by simp; omega
  rw [e, List.set_append_left _ _ hj]
  simp
theorem splice_length {cs : List Value} {o : Nat} {ds : List Value} (h : o + ds.length ≤ cs.length) : (splice cs o ds).length = cs.length := by
  rw [splice_eq ds o cs h]
  simp
  omega
theorem splice_self {w : World} {b o : Nat} {cs : List Value} {t : TypeId} {s : St} (h : VarAt w b cs t) (hl : o + 58 ≤ cs.length) (hr : w.rangeAt b o s.cells) : splice cs o s.cells = cs := by
  have hc : ∀ j u, s.cells[j]? = some u → cs[o + j]? = some u := fun j u hu => by
    have h1 := hr j u hu
    rw [cell_of_row w b (o + j) _ _ _ h] at h1
    simpa using h1
  rw [splice_eq _ _ _ (by rw [St.len]; exact hl)]
  apply List.ext_getElem?
  intro i
  by_cases h1 : i < o
  · rw [List.getElem?_append_left (by simp; omega), List.getElem?_take, if_pos h1]
  · rw [List.getElem?_append_right (by simp; omega)]
    have e : i - (cs.take o).length = i - o := by simp; omega
    rw [e]
    by_cases h2 : i - o < s.cells.length
    · rw [List.getElem?_append_left h2, List.getElem?_eq_getElem h2]
      have := hc (i - o) _ (List.getElem?_eq_getElem h2)
      rw [show o + (i - o) = i by omega] at this
      exact this.symm
    · rw [List.getElem?_append_right (by omega), List.getElem?_drop]
      congr 1
      omega
theorem Lay.start {w : World} {b o : Nat} {cs : List Value} {t : TypeId} {s : St} (h : VarAt w b cs t) (hl : o + 58 ≤ cs.length) (hr : w.rangeAt b o s.cells) : Lay w w b o cs t s := ⟨by rw [splice_self h hl hr]; exact h, Touch.refl _ _, hl⟩
theorem Lay.range {w wr : World} {b o : Nat} {cs : List Value} {t : TypeId} {s : St} (h : Lay w wr b o cs t s) (k : Nat) (ds : List Value) (hd : (s.cells.drop k).take ds.length = ds) : wr.rangeAt b (o + k) ds := fun j u hu => by
  have e : s.cells[k + j]? = some u := by
    rw [← hd, List.getElem?_take] at hu
    split at hu
    · rwa [List.getElem?_drop] at hu
    · simp at hu
  have := h.var.cell (o + (k + j)) (splice_get (by rw [St.len]; exact h.room) (k + j) e)
  rw [Nat.add_assoc]
  exact this
theorem Lay.keep {w wr w2 : World} {b o : Nat} {cs : List Value} {t : TypeId} {s : St} (h : Lay w wr b o cs t s) (k : Below wr.heap.size wr w2) : Lay w w2 b o cs t s := ⟨h.var.kept k, h.touch.trans (Touch.of_below k), h.room⟩
/-- An expression within is put anew by ownKids. -/
theorem Lay.kids {w wr w2 : World} {b o : Nat} {cs : List Value} {t : TypeId} {s s' : St} (h : Lay w wr b o cs t s) (j : Nat) (hj : j < 58) (v : Value) (hs : s'.cells = s.cells.set j v) (hv : VarAt w2 b ((splice cs o s.cells).set (o + j) v) t) (ht : Touch (fun g => g = b) wr w2) : Lay w w2 b o cs t s' := by
  refine ⟨?_, h.touch.trans ht, h.room⟩
  rw [splice_set (by rw [St.len]; exact h.room) j (by rw [St.len]; exact hj)] at hv
  rw [hs]
  exact hv

set_option maxRecDepth 100000 in
set_option maxHeartbeats 2000000 in
theorem ownParts_step (s : St) (HB : OwnRowS s.body) (HE : OwnRowS s.els) : PartsOk s := by
  intro w F b o cs t hV hl hr hok hFb htx
  have tl := htx
  rw [St.texts_eq] at tl
  simp only [List.length_append, List.length_cons, List.length_nil] at tl
  have tp1 : s.right.place.index.texts.length ≤ s.right.place.texts.length := by simp only [Pl.texts, List.length_append]; omega
  have tp2 : s.place.index.texts.length ≤ s.place.texts.length := by simp only [Pl.texts, List.length_append]; omega
  obtain ⟨pa, ca, eav⟩ := hok.hd.2.2.2.2.1.1.form
  obtain ⟨pb, cb, ebv⟩ := hok.hd.2.2.2.2.2.1.form
  obtain ⟨pe, ce, eev⟩ := hok.hd.2.2.2.2.2.2.form
  have so := hid hok
  have zb := hV.lt
  have Y := hid (Lay.start hV hl hr)
  have t1 : Hid (s.right.e.texts.length ≤ 2000000) := hid (by omega)
  have t2 : Hid (s.right.place.index.texts.length ≤ 2000000) := hid (by omega)
  have t3 : Hid (s.place.index.texts.length ≤ 2000000) := hid (by omega)
  have t4 : Hid (s.e.texts.length ≤ 2000000) := hid (by omega)
  have t5 : Hid ((s.args.flatMap Ex.texts).length ≤ 2000000) := hid (by omega)
  have t6 : Hid ((rowT s.body).length ≤ 2000000) := hid (by simp only [rowT, List.length_append, List.length_cons, List.length_nil]; omega)
  have t7 : Hid ((rowT s.els).length ≤ 2000000) := hid (by simp only [rowT, List.length_append, List.length_cons, List.length_nil]; omega)
  have old : Hid (∀ W, Touch (fun g => g = b) w W → ∀ g, F g → g < w.heap.size → W.heap[g]? = w.heap[g]?) := hid (fun W ht g hF hl => ht.block g hl (hFb g hF))
  have new : Hid (∀ W W', Touch (fun g => g = b) W W' → ∀ g, w.heap.size ≤ g → g < W.heap.size → W'.heap[g]? = W.heap[g]?) := hid (fun W W' ht g hF hl => ht.block g hl (by omega))
  replace eav := hid eav
  replace ebv := hid ebv
  replace eev := hid eev
  have room : Hid (∀ (x : St) (k : Nat), k + 9 ≤ 58 → o + k + 9 ≤ (splice cs o x.cells).length) := hid (fun x k hk => by rw [splice_length (by rw [St.len]; exact hl)]; omega)
  clear hV hr hok htx tl tp1 tp2
  have C1 := hid (ownKids_any s.right.e w F b (o + 3) _ t Y.out.var (room.out s 3 (by omega)) (Y.out.range 3 _ rfl) so.out.hd.2.1.2.1 t1.out)
  go_enter Try.func49, Try.ntmps49
  go_upto_region 1 with (go_at_call 56; refine C1.out.mono ?_; rintro r w1 ⟨rfl, e1, eb1, ec1, eo1, ev1, et1⟩; replace eb1 := hid eb1; replace ec1 := hid ec1; replace eo1 := hid eo1; replace ev1 := hid ev1; replace et1 := hid et1)
  have s1c : ({ s with right := { s.right with e := e1 } } : St).cells = s.cells.set 9 e1.kv := by
    simp only [St.cells, Rt.cells, Pl.cells, ec1.out]
    rfl
  replace Y := hid (Y.out.kids (s' := { s with right := { s.right with e := e1 } }) 9 (by omega) e1.kv s1c ev1.out et1.out)
  clear s1c ev1 C1
  have C2 := hid (ownKids_any s.right.place.index w1 F b (o + 15) _ t Y.out.var (room.out _ 15 (by omega)) (Y.out.range 15 _ rfl) (so.out.hd.2.1.2.2.2.keep (old.out _ Y.out.touch)) t2.out)
  go_upto_region 2 with (go_at_call 56; refine C2.out.mono ?_; rintro r w2 ⟨rfl, e2, eb2, ec2, eo2, ev2, et2⟩; replace eb2 := hid eb2; replace ec2 := hid ec2; replace eo2 := hid eo2; replace ev2 := hid ev2; replace et2 := hid et2)
  have s2c : ({ s with right := { s.right with e := e1, place := { s.right.place with index := e2 } } } : St).cells = ({ s with right := { s.right with e := e1 } } : St).cells.set 21 e2.kv := by
    simp only [St.cells, Rt.cells, Pl.cells, ec2.out]
    rfl
  replace Y := hid (Y.out.kids (s' := { s with right := { s.right with e := e1, place := { s.right.place with index := e2 } } }) 21 (by omega) e2.kv s2c ev2.out et2.out)
  clear s2c ev2 C2
  have C3 := hid (ownKids_any s.place.index w2 F b (o + 32) _ t Y.out.var (room.out _ 32 (by omega)) (Y.out.range 32 _ rfl) (so.out.hd.2.2.1.2.keep (old.out _ Y.out.touch)) t3.out)
  go_upto_region 3 with (go_at_call 56; refine C3.out.mono ?_; rintro r w3 ⟨rfl, e3, eb3, ec3, eo3, ev3, et3⟩; replace eb3 := hid eb3; replace ec3 := hid ec3; replace eo3 := hid eo3; replace ev3 := hid ev3; replace et3 := hid et3)
  have s3c : ({ s with right := { s.right with e := e1, place := { s.right.place with index := e2 } }, place := { s.place with index := e3 } } : St).cells = ({ s with right := { s.right with e := e1, place := { s.right.place with index := e2 } } } : St).cells.set 38 e3.kv := by
    simp only [St.cells, Rt.cells, Pl.cells, ec3.out]
    rfl
  replace Y := hid (Y.out.kids (s' := { s with right := { s.right with e := e1, place := { s.right.place with index := e2 } }, place := { s.place with index := e3 } }) 38 (by omega) e3.kv s3c ev3.out et3.out)
  clear s3c ev3 C3
  have C4 := hid (ownKids_any s.e w3 F b (o + 43) _ t Y.out.var (room.out _ 43 (by omega)) (Y.out.range 43 _ rfl) (so.out.hd.2.2.2.1.keep (old.out _ Y.out.touch)) t4.out)
  go_upto_region 4 with (go_at_call 56; refine C4.out.mono ?_; rintro r w4 ⟨rfl, e4, eb4, ec4, eo4, ev4, et4⟩; replace eb4 := hid eb4; replace ec4 := hid ec4; replace eo4 := hid eo4; replace ev4 := hid ev4; replace et4 := hid et4)
  have s4c : ({ s with right := { s.right with e := e1, place := { s.right.place with index := e2 } }, place := { s.place with index := e3 }, e := e4 } : St).cells = ({ s with right := { s.right with e := e1, place := { s.right.place with index := e2 } }, place := { s.place with index := e3 } } : St).cells.set 49 e4.kv := by
    simp only [St.cells, Rt.cells, Pl.cells, ec4.out]
    rfl
  replace Y := hid (Y.out.kids (s' := { s with right := { s.right with e := e1, place := { s.right.place with index := e2 } }, place := { s.place with index := e3 }, e := e4 }) 49 (by omega) e4.kv s4c ev4.out et4.out)
  clear s4c ev4 C4
  have k5 : w4.cell? ⟨b, o + 53, none⟩ = some (.slice pa s.args.length ca) := by
    rw [← eav.out]
    exact Y.out.var.cell (o + 53) (splice_get (by rw [St.len]; exact hl) 53 rfl)
  have C5 := hid (ownRowE_any s.args (.slice pa s.args.length ca) w4 F (by rw [← eav.out]; exact so.out.hd.2.2.2.2.1.keep (old.out _ Y.out.touch)) t5.out)
  go_upto_region 5 with (first
    | (go_at_call 57
       refine C5.out.mono ?_
       rintro r w5 ⟨p5, n5, c5, la, rfl, hb5, ho5, hk5, bel5⟩
       replace Y := hid (Y.out.keep bel5)
       replace hb5 := hid hb5
       replace ho5 := hid ho5
       replace hk5 := hid hk5
       replace bel5 := hid bel5)
    | (refine wl_store_cell 44 _ _ rfl rfl b (o + 53) rfl (.slice p5 n5 c5) rfl info44 rfl _ t Y.out.var (by rw [splice_length (by rw [St.len]; exact hl)]; omega) ?_
       intro w5' hv5 ht5
       replace Y := hid (Y.out.kids (s' := { s with right := { s.right with e := e1, place := { s.right.place with index := e2 } }, place := { s.place with index := e3 }, e := e4, args := la, av := .slice p5 n5 c5 }) 53 (by omega) (.slice p5 n5 c5) rfl hv5 ht5)
       replace ht5 := hid ht5
       clear hv5))
  clear k5 C5
  have k6 : w5'.cell? ⟨b, o + 54, none⟩ = some (.slice pb s.body.length cb) := by
    rw [← ebv.out]
    exact Y.out.var.cell (o + 54) (splice_get (by rw [St.len]; exact hl) 54 rfl)
  have C6 := hid (HB (.slice pb s.body.length cb) w5' F (by rw [← ebv.out]; exact ⟨so.out.hd.2.2.2.2.2.1.keep (old.out _ Y.out.touch), fun k hk => (so.out.bodies k hk).keep (old.out _ Y.out.touch)⟩) t6.out)
  go_upto_region 6 with (first
    | (go_at_call 46
       refine C6.out.mono ?_
       rintro r w6 ⟨p6, n6, c6, lb, rfl, hb6, ho6, hk6, bel6⟩
       replace Y := hid (Y.out.keep bel6)
       replace hb6 := hid hb6
       replace ho6 := hid ho6
       replace hk6 := hid hk6
       replace bel6 := hid bel6)
    | (refine wl_store_cell 35 _ _ rfl rfl b (o + 54) rfl (.slice p6 n6 c6) rfl info35' rfl _ t Y.out.var (by rw [splice_length (by rw [St.len]; exact hl)]; omega) ?_
       intro w6' hv6 ht6
       replace Y := hid (Y.out.kids (s' := { s with right := { s.right with e := e1, place := { s.right.place with index := e2 } }, place := { s.place with index := e3 }, e := e4, args := la, av := .slice p5 n5 c5, body := lb, bv := .slice p6 n6 c6 }) 54 (by omega) (.slice p6 n6 c6) rfl hv6 ht6)
       replace ht6 := hid ht6
       clear hv6))
  clear k6 C6
  have k7 : w6'.cell? ⟨b, o + 55, none⟩ = some (.slice pe s.els.length ce) := by
    rw [← eev.out]
    exact Y.out.var.cell (o + 55) (splice_get (by rw [St.len]; exact hl) 55 rfl)
  have C7 := hid (HE (.slice pe s.els.length ce) w6' F (by rw [← eev.out]; exact ⟨so.out.hd.2.2.2.2.2.2.keep (old.out _ Y.out.touch), fun k hk => (so.out.elses k hk).keep (old.out _ Y.out.touch)⟩) t7.out)
  go_wp2_with (first
    | (go_at_call 46
       refine C7.out.mono ?_
       rintro r w7 ⟨p7, n7, c7, le, rfl, hb7, ho7, hk7, bel7⟩
       replace Y := hid (Y.out.keep bel7)
       replace hb7 := hid hb7
       replace ho7 := hid ho7
       replace hk7 := hid hk7
       replace bel7 := hid bel7)
    | (refine wl_store_cell 35 _ _ rfl rfl b (o + 55) rfl (.slice p7 n7 c7) rfl info35' rfl _ t Y.out.var (by rw [splice_length (by rw [St.len]; exact hl)]; omega) ?_
       intro w7' hv7 ht7
       replace Y := hid (Y.out.kids (s' := { s with right := { s.right with e := e1, place := { s.right.place with index := e2 } }, place := { s.place with index := e3 }, e := e4, args := la, av := .slice p5 n5 c5, body := lb, bv := .slice p6 n6 c6, els := le, ev := .slice p7 n7 c7 }) 55 (by omega) (.slice p7 n7 c7) rfl hv7 ht7)
       replace ht7 := hid ht7
       clear hv7))
  clear k7 C7
  go_end0
  have m5 : Touch (fun g => g = b) w4 w5' := (Touch.of_below bel5.out).trans ht5.out
  have m6 : Touch (fun g => g = b) w5' w6' := (Touch.of_below bel6.out).trans ht6.out
  have m7 : Touch (fun g => g = b) w6' w7' := (Touch.of_below bel7.out).trans ht7.out
  have z1 := et1.out.size
  have z2 := et2.out.size
  have z3 := et3.out.size
  have z4 := et4.out.size
  have z5 := bel5.out.size
  have z5' := ht5.out.size
  have z6 := bel6.out.size
  have z6' := ht6.out.size
  have z7 := bel7.out.size
  have z7' := ht7.out.size
  have x4 := (m5.trans m6).trans m7
  have x3 := et4.out.trans x4
  have x2 := et3.out.trans x3
  have x1 := et2.out.trans x2
  have o1 := (eo1.out.keep (new.out _ _ x1)).mono (G := fun g => w.heap.size ≤ g) (fun g hg _ => by omega)
  have o2 := (eo2.out.mono (G := fun g => w.heap.size ≤ g) (fun g hg _ => by omega)).keep (new.out _ _ x2)
  have o3 := (eo3.out.mono (G := fun g => w.heap.size ≤ g) (fun g hg _ => by omega)).keep (new.out _ _ x3)
  have o4 := (eo4.out.mono (G := fun g => w.heap.size ≤ g) (fun g hg _ => by omega)).keep (new.out _ _ x4)
  have l5 := congrArg List.length hb5.out
  have l6 := congrArg List.length hb6.out
  have l7 := congrArg List.length hb7.out
  simp only [List.length_map] at l5 l6 l7
  have v5 := so.out.hd.2.2.2.2.1.1.1.2
  have v6 := so.out.hd.2.2.2.2.2.1.1.2
  have v7 := so.out.hd.2.2.2.2.2.2.1.2
  have r5 : RowAt w5 (fun g => w.heap.size ≤ g) 9 (.slice p5 n5 c5) la.length (la.flatMap Ex.cells) := RowAt.of_owns ho5.out (by omega) (fun g hg => by have := own_lt ho5.out hg; omega)
  have r6 : RowAt w6 (fun g => w.heap.size ≤ g) 58 (.slice p6 n6 c6) lb.length (lb.flatMap St.cells) := RowAt.of_owns ho6.out (by omega) (fun g hg => by have := own_lt ho6.out hg; omega)
  have r7 : RowAt w7 (fun g => w.heap.size ≤ g) 58 (.slice p7 n7 c7) le.length (le.flatMap St.cells) := RowAt.of_owns ho7.out (by omega) (fun g hg => by have := own_lt ho7.out hg; omega)
  have y5 := (ht5.out.trans m6).trans m7
  have y6 := ht6.out.trans m7
  have y7 := ht7.out
  have a5 : ∀ k ∈ la, k.ok w7' (fun g => w.heap.size ≤ g) := fun k hk => ((hk5.out k hk).mono (G := fun g => w.heap.size ≤ g) (fun g hg _ => by omega)).keep (new.out _ _ y5)
  have a6 : ∀ k ∈ lb, k.ok w7' (fun g => w.heap.size ≤ g) := fun k hk => ((hk6.out k hk).mono (G := fun g => w.heap.size ≤ g) (fun g hg _ => by omega)).keep (new.out _ _ y6)
  have a7 : ∀ k ∈ le, k.ok w7' (fun g => w.heap.size ≤ g) := fun k hk => ((hk7.out k hk).mono (G := fun g => w.heap.size ≤ g) (fun g hg _ => by omega)).keep (new.out _ _ y7)
  refine ⟨rfl, { s with right := { s.right with e := e1, place := { s.right.place with index := e2 } }, place := { s.place with index := e3 }, e := e4, args := la, av := .slice p5 n5 c5, body := lb, bv := .slice p6 n6 c6, els := le, ev := .slice p7 n7 c7 }, ?_, (St.ok_iff _ _ _).2 ⟨⟨so.out.hd.1, ⟨so.out.hd.2.1.1, o1, so.out.hd.2.1.2.2.1, o2⟩, ⟨so.out.hd.2.2.1.1, o3⟩, o4, ⟨r5.keep (new.out _ _ y5), a5⟩, r6.keep (new.out _ _ y6), r7.keep (new.out _ _ y7)⟩, a6, a7⟩, Y.out.var, Y.out.touch⟩
  rw [St.bare_eq, St.bare_eq]
  simp only [Rt.bare, Pl.bare, eb1.out, eb2.out, eb3.out, eb4.out, hb5.out, hb6.out, hb7.out]
end Go.Proofs.Ytfdfeiempeciiaa

/- The contract of ownStmts: a row of statements in memory of its own, bare the same. -/
namespace Go.Proofs.Ytfdfeiempeciiaa
open Go.ChangeShapes Go.WideShapes Go.ChangeAt Go.RowKit
set_option linter.unusedVariables false

structure OwnAtS (w wr : World) (l : List St) (k : Nat) (l1 : List St) (p : Option Addr) (n c : Nat) : Prop where
  own : wr.ownsRow w.heap.size 52 58 (.slice p n c) l.length ((l1 ++ l.drop k).flatMap St.cells)
  len : l1.length = k
  bare : l1.map St.bare = (l.take k).map St.bare
  ok : ∀ x ∈ l1, x.ok wr (fun g => w.heap.size ≤ g ∧ (Value.slice p n c).ownBlock ≠ some g)
  bel : Below w.heap.size w wr
theorem sts_len (l : List St) : l.length * 7 ≤ (l.flatMap St.texts).length := by
  induction l with
  | nil => simp
  | cons a l ih =>
    have : 7 ≤ a.texts.length := by rw [St.texts_eq]; simp
    simp only [List.length_cons, List.flatMap_cons, List.length_append, Nat.add_mul]
    omega
/-- One of a row is put anew, all its cells. -/
theorem row_splice (cur : List Value) (l1 r : List St) (x x' : St) (n : Nat) (hn : l1.length + (1 + r.length) = n) (h : cur.take (n * 58) = (l1 ++ x :: r).flatMap St.cells) (hc : n * 58 ≤ cur.length) : (splice cur (l1.length * 58) x'.cells).take (n * 58) = ((l1 ++ [x']) ++ r).flatMap St.cells := by
  have e1 : (l1.flatMap St.cells).length = l1.length * 58 := flat_len St.cells 58 St.len l1
  have e2 : (r.flatMap St.cells).length = r.length * 58 := flat_len St.cells 58 St.len r
  have e3 : n * 58 = l1.length * 58 + (58 + r.length * 58) := by rw [← hn]; omega
  have a1 : cur.take (l1.length * 58) = l1.flatMap St.cells := by
    have := congrArg (List.take (l1.length * 58)) h
    rw [List.take_take, Nat.min_eq_left (by omega), List.flatMap_append, ← e1, List.take_left] at this
    rw [← e1]
    exact this
  have a2 : (cur.drop (l1.length * 58 + 58)).take (r.length * 58) = r.flatMap St.cells := by
    have := congrArg (List.drop (l1.length * 58 + 58)) h
    rw [List.drop_take, List.flatMap_append, List.flatMap_cons, show n * 58 - (l1.length * 58 + 58) = r.length * 58 by omega, ← List.append_assoc] at this
    rw [this, List.drop_left' (by simp only [List.length_append, e1, St.len])]
  rw [splice_eq _ _ _ (by rw [St.len]; omega), a1, e3, St.len, List.take_append, e1, List.take_of_length_le (by omega), List.take_append, St.len, List.take_of_length_le (by rw [St.len]; omega), show l1.length * 58 + (58 + r.length * 58) - l1.length * 58 - 58 = r.length * 58 by omega, a2]
  simp

set_option maxRecDepth 100000 in
set_option maxHeartbeats 1000000 in
theorem ownRow55_step (l : List St) (ih : ∀ e ∈ l, PartsOk e) (v : Value) (w : World) (F : Nat → Prop) (hv : stsOk w F v l) (hlen : (rowT l).length ≤ 2000000) :
    Calls Try.prog 55 #[v, .func (.func 49) #[] #[]] w fun r w' => ∃ (p : Option Addr) (n c : Nat) (l' : List St), r = .returned (.slice p n c) ∧ l'.map St.bare = l.map St.bare ∧ w'.ownsRow w.heap.size 52 58 (.slice p n c) l'.length (l'.flatMap St.cells) ∧ (∀ k ∈ l', k.ok w' (fun g => w.heap.size ≤ g ∧ (Value.slice p n c).ownBlock ≠ some g)) ∧ Below w.heap.size w w' := by
  have hx := sts_len l
  simp only [rowT, List.length_append, List.length_cons, List.length_nil] at hlen
  have C := hid (clone58 l v w F hv (by omega))
  obtain ⟨p0, c0, rfl⟩ := hv.1.form
  replace hv := hid hv
  go_enter Try.func55, Try.ntmps55
  go_wp2_with fail
  refine C.out.mono ?_
  rintro r w1 ⟨p, c, rfl, o1, b1⟩
  have A : Hid (OwnAtS w w1 l 0 [] p l.length c) := hid ⟨by simpa using o1, rfl, by simp, by simp, b1⟩
  clear C o1 b1
  have hll : l.length ≤ 1000000 := by omega
  clear hx
  go_wp2_with fail
  go_loopw [11] (fun vi wr => ∃ (k : Nat) (l1 : List St), k ≤ l.length ∧ vi = .int .i64 k ∧ Hid (OwnAtS w wr l k l1 p l.length c)) (fun vi _ => l.length - (intOf vi).toNat)
  case atStart => exact ⟨0, [], Nat.zero_le _, rfl, A⟩
  case round =>
    obtain ⟨k, l1, hk, rfl, hat⟩ := hrel
    clear A
    by_cases hlt : k < l.length
    · obtain ⟨x, hx⟩ : ∃ x, l[k]? = some x := ⟨_, List.getElem?_eq_getElem hlt⟩
      have hm := List.mem_of_getElem? hx
      have hdr : l.drop k = x :: l.drop (k + 1) := by
        rw [List.drop_eq_getElem_cons hlt]
        congr 1
        exact (List.getElem?_eq_some_iff.1 hx).2
      have hcur : (l1 ++ l.drop k)[k]? = some x := by
        rw [List.getElem?_append_right (by rw [hat.out.len]; omega), hat.out.len, Nat.sub_self, List.getElem?_drop, Nat.add_zero]
        exact hx
      rcases hat.out.own.2 with ⟨_, h0⟩ | ⟨g, cap, cur, ev, hbg, hg, hnc, hcm, hcs, htk⟩
      · omega
      · obtain ⟨rfl, -, rfl⟩ := Value.slice.inj ev
        have hV : VarAt wr g cur.toList 52 := by simpa [VarAt] using hg
        have zg := hV.lt
        have hrg : wr.rangeAt g (k * 58) x.cells := fun j u hu => by
          refine hV.cell (k * 58 + j) ?_
          have := flat_get St.cells 58 St.len (l1 ++ l.drop k) k x hcur j u hu
          rw [← htk, List.getElem?_take] at this
          split at this
          · exact this
          · simp at this
        have hroom : k * 58 + 58 ≤ cur.toList.length := by
          have h2 : (k + 1) * 58 ≤ c * 58 := Nat.mul_le_mul_right 58 (by omega)
          rw [Nat.add_mul] at h2
          simp
          omega
        have hxt := mem_take_len St.texts l k x hx
        have C := hid (ih x hm wr (fun b => F b ∧ b < w.heap.size) g (k * 58) cur.toList 52 hV hroom hrg (((hv.out.2 x hm).mono (G := fun b => F b ∧ b < w.heap.size) (fun b hb hl => ⟨hb, hl⟩)).kept hat.out.bel) (fun b hb => by omega) (by omega))
        have hk0 : (0 : Int) ≤ (k : Int) := Int.natCast_nonneg _
        have hk1 : (k : Int) < (l.length : Int) := by omega
        replace htk := hid htk
        replace hx := hid hx
        replace hcs := hid hcs
        replace hdr := hid hdr
        clear hV hrg hg hcur
        go_wp2_with (go_at_call 49; refine C.out.mono ?_; rintro r w2 ⟨rfl, x', xb, xo, xv, xt⟩; replace xb := hid xb; replace xo := hid xo; replace xv := hid xv; replace xt := hid xt)
        go_roundw
        case rel =>
          have zl := hat.out.len
          have zs := hat.out.bel.size
          have htk' := htk.out
          rw [hdr.out] at htk'
          have hcl : l.length * 58 ≤ cur.toList.length := by
            have h2 : l.length * 58 ≤ c * 58 := Nat.mul_le_mul_right 58 hnc
            have := hcs.out
            simp
            omega
          have hrs := row_splice cur.toList l1 (l.drop (k + 1)) x x' l.length (by simp [zl]; omega) htk' hcl
          rw [zl] at hrs
          have hsl : (splice cur.toList (k * 58) x'.cells).length = cur.toList.length := splice_length (by rw [St.len]; exact hroom)
          refine ⟨k + 1, l1 ++ [x'], by omega, by go_num, hid ⟨⟨?_, .inr ⟨g, c, (splice cur.toList (k * 58) x'.cells).toArray, rfl, hbg, xv.out, hnc, hcm, by simpa [hsl] using hcs.out, by simpa using hrs⟩⟩, by simp [zl], ?_, ?_, ?_⟩⟩
          · rw [flat_len St.cells 58 St.len]
            simp [zl]
            omega
          · rw [List.map_append, hat.out.bare, List.take_add_one, hx.out]
            simp [xb.out]
          · intro y hy
            simp only [List.mem_append, List.mem_cons, List.not_mem_nil, or_false] at hy
            rcases hy with hy | rfl
            · refine (hat.out.ok y hy).keep (fun b hb hl => xt.out.block b hl (fun e => hb.2 (by rw [e]; rfl)))
            · refine xo.out.mono (fun b hb hl => ⟨by omega, fun e => ?_⟩)
              simp only [Value.ownBlock, Option.some.injEq] at e
              omega
          · exact hat.out.bel.trans (xt.out.below (fun i hi => ⟨by omega, by omega⟩))
        case measure => simp [intOf]; omega
    · have hkl : k = l.length := by omega
      subst hkl
      go_wp2_with fail
      go_ret
      have e1 : l1 ++ l.drop l.length = l1 := by simp
      refine ⟨p, l.length, c, l1, rfl, by simpa using hat.out.bare, ?_, hat.out.ok, hat.out.bel⟩
      have := hat.out.own
      rw [e1] at this
      rw [hat.out.len]
      exact this

set_option maxRecDepth 100000 in
set_option maxHeartbeats 1000000 in
theorem ownStmts_step (l : List St) (ih : ∀ e ∈ l, PartsOk e) : OwnRowS l := by
  intro v w F hv hlen
  have C := hid (ownRow55_step l ih v w F hv hlen)
  obtain ⟨p0, c0, rfl⟩ := hv.1.form
  clear hv
  go_enter Try.func46, Try.ntmps46
  go_wp2_with fail
  refine C.out.mono ?_
  rintro r w1 ⟨p, n, c, l', rfl, h1, h2, h3, h4⟩
  replace h1 := hid h1
  replace h2 := hid h2
  replace h3 := hid h3
  replace h4 := hid h4
  go_wp2_with fail
  go_ret
  exact ⟨p, n, c, l', rfl, h1.out, h2.out, h3.out, h4.out⟩

theorem ownParts_any (s : St) : PartsOk s := by
  induction s using St.ind with
  | h s ih1 ih2 => exact ownParts_step s (ownStmts_step s.body ih1) (ownStmts_step s.els ih2)
theorem ownStmts_any (l : List St) : OwnRowS l := ownStmts_step l (fun e _ => ownParts_any e)
end Go.Proofs.Ytfdfeiempeciiaa
