/- Rows of sets that are made, one by one: memory. -/
import Derived.Test.YtkdpcaoocmbbhaaDoorSt
namespace Go.Proofs.YtkdpcaoocmbbhaaDoor
open Go.ChangeShapes Go.WideShapes Go.ChangeAt Go.RowKit Go.Deep
set_option linter.unusedVariables false
set_option linter.unusedSimpArgs false

theorem VarAt.there {w : World} {b : Nat} {cs : List Value} {t : TypeId} (h : VarAt w b cs t) (o n : Nat) (hn : o + n≤cs.length) : w.there b o n:=fun j hj=>by
 refine ⟨?_,h.frozen _⟩
 rw [h.box.2 (o + j) _ (List.getElem?_eq_getElem (by omega))]
 rfl
theorem run_store_cell {w : World} (ty : TypeId) (b o : Nat) (u : Value) (hT : (Tryd.prog.info? ty).map (·.size) = some 1) (h1 : u.oneCell' = true) (cs : List Value) (t : TypeId) (hv : VarAt w b cs t) (hl : o < cs.length) :
  (storeVar ty ⟨b,o,none⟩ u).run Tryd.prog w = .ok () (w.setCell ⟨b,o,none⟩ u):=by
 have hc : u.cells = #[u]:=by cases u <;> first | rfl | simp [Value.oneCell'] at h1
 have hs:=run_storeCells_cells (P:=Tryd.prog) b o [u] 0 w (fun j hj=>by simpa using (hv.there o 1 (by omega) j (by simpa using hj)).1) (fun j hj=>by simpa using (hv.there o 1 (by omega) j (by simpa using hj)).2) (fun v hv=>by simp at hv;subst hv;exact h1)
 cases hq : Tryd.prog.info? ty with
 | none=>simp [hq] at hT
 | some i =>
  have e : i.size = 1:=by simpa [hq] using hT
  simp only [Nat.add_zero] at hs
  simp [storeVar,sizeOf,typeInfo,hq,hc,e]
  simpa [World.setCells] using hs
/-- A single value goes into a part of a variable. -/
theorem wl_store_cell {ops : Array Oper} {rest : List Oper} {op : Oper} {a : Act} {w : World} {Q : Exit→Act→World→Prop} (ty : TypeId) (x y : Operand) (ho : op.op = .store ty x y) (hw : Region.wanted op (yielded ops a.tmps) = true)
  (b o : Nat) (hx : a.eval x = .pointer (some ⟨b,o,none⟩)) (u : Value) (hy : a.eval y = u) (hT : (Tryd.prog.info? ty).map (·.size) = some 1) (h1 : u.oneCell' = true)
  (cs : List Value) (t : TypeId) (hv : VarAt w b cs t) (hl : o < cs.length)
  (h : ∀ w',VarAt w' b (cs.set o u) t→Turned b w w'→wpList Tryd.prog ops Q rest (a.put op.dst undef) w') : wpList Tryd.prog ops Q (op :: rest) a w:=by
 refine wpList_step fun K hK=>?_
 rw [if_pos hw]
 unfold Oper.wp execOp
 simp only [ho,hx,hy,Instr.storeAt,Instr.sureAddr,Sem.run_bind,Sem.run_pure,Result.andThen_ok,run_store_cell ty b o u hT h1 cs t hv hl]
 exact hK _ _ (h _ (hv.set o u) (Turned.sets b [u] o w))
theorem step_store_cell {ops : Array Oper} {op : Oper} {a : Act} {w : World} {K : Act→World→Prop} {Q : Exit→Act→World→Prop} {E : Prop} (ty : TypeId) (x y : Operand) (ho : op.op = .store ty x y) (hw : Region.wanted op (yielded ops a.tmps) = true)
  (b o : Nat) (hx : a.eval x = .pointer (some ⟨b,o,none⟩)) (u : Value) (hy : a.eval y = u) (hT : (Tryd.prog.info? ty).map (·.size) = some 1) (h1 : u.oneCell' = true)
  (cs : List Value) (t : TypeId) (hv : VarAt w b cs t) (hl : o < cs.length)
  (h : ∀ w',VarAt w' b (cs.set o u) t→Turned b w w'→K (a.put op.dst undef) w') : if Region.wanted op (yielded ops a.tmps) = true then Oper.wp Tryd.prog op a w K Q else E:=by
 rw [if_pos hw]
 unfold Oper.wp execOp
 simp only [ho,hx,hy,Instr.storeAt,Instr.sureAddr,Sem.run_bind,Sem.run_pure,Result.andThen_ok,run_store_cell ty b o u hT h1 cs t hv hl]
 exact h _ (hv.set o u) (Turned.sets b [u] o w)

def zeros (n : Nat) : List Nat:=List.replicate n 0
theorem made_zero (n : Nat) : madeCells #[.int .u64 0] (n * 1) = (cellsN (zeros n)).toArray:=by
 apply Array.ext
 ·simp [madeCells,cellsN,zeros]
 ·intro i h1 h2
  simp [madeCells,cellsN,zeros,nV,Nat.mod_one]
theorem info44 : (Tryd.prog.info? 44).map (fun i=>(i.zero,i.size,i.bytes)) = some (some (.int .u64 0),1,8):=by kernel_rfl
theorem run_make44 (n : Nat) (hn : n≤1000) (w : World) : (Instr.makeSlice 33 (.int .i64 (n : Int)) (.int .i64 (n : Int))).run Tryd.prog w = .ok (.slice (some ⟨w.heap.size,0,none⟩) n n) (w.alloc (.cells (cellsN (zeros n)).toArray 44)):=by
 obtain ⟨i,hi,z0,z1,z2⟩:=info_parts info44
 have:=run_make (P:=Tryd.prog) w 33 44 i _ Tryd.underlying33 hi z0 .i64 .i64 (n : Int) (n : Int) (by omega) (by omega) (by rw [z2];omega) (by omega)
 rw [z1] at this
 simp only [Int.toNat_natCast] at this
 rw [this]
 simp only [Value.cells]
 rw [made_zero]

/-- Rows of sets that were made: those of Dn. -/
structure Rows0 (w : World) (base : Nat) (Dn : Nat→Prop) (vs : Nat→Value) (bs ns : Nat→Nat) : Prop where
 row : ∀ r,Dn r→∃ a cp,vs r = .slice a (ns r) cp∧(ns r ≠ 0→a = some ⟨bs r,0,none⟩∧VarAt w (bs r) (cellsN (zeros (ns r))) 44∧base≤bs r)
 sep : ∀ r r',Dn r→Dn r'→ns r ≠ 0→ns r' ≠ 0→bs r = bs r'→r = r'
theorem Rows0.touch {T : Nat→Prop} {w w' : World} {base : Nat} {Dn : Nat→Prop} {vs : Nat→Value} {bs ns : Nat→Nat} (h : Rows0 w base Dn vs bs ns) (k : Touch T w w') (hT : ∀ r,Dn r→ns r ≠ 0→¬ T (bs r)) : Rows0 w' base Dn vs bs ns :=
 ⟨fun r hr=>by
  obtain ⟨a,cp,h1,h2⟩:=h.row r hr
  exact ⟨a,cp,h1,fun hn=>⟨(h2 hn).1,(h2 hn).2.1.touch k (hT r hr hn),(h2 hn).2.2⟩⟩,h.sep⟩
theorem Rows0.kept {w w' : World} {base : Nat} {Dn : Nat→Prop} {vs : Nat→Value} {bs ns : Nat→Nat} (h : Rows0 w base Dn vs bs ns) (k : Below w.heap.size w w') : Rows0 w' base Dn vs bs ns:=h.touch (T:=fun _=>False) (Touch.of_below k) (fun _ _ _ q=>q)
theorem Rows0.lt {w : World} {base : Nat} {Dn : Nat→Prop} {vs : Nat→Value} {bs ns : Nat→Nat} (h : Rows0 w base Dn vs bs ns) {r : Nat} (hr : Dn r) (hn : ns r ≠ 0) : base≤bs r∧bs r < w.heap.size:=by
 obtain ⟨a,cp,h1,h2⟩:=h.row r hr
 exact ⟨(h2 hn).2.2,(h2 hn).2.1.lt⟩
def putV {α : Type} (f : Nat→α) (r : Nat) (v : α) : Nat→α:=fun k=>if k = r then v else f k
theorem putV_same {α : Type} (f : Nat→α) (r : Nat) (v : α) : putV f r v r = v:=by simp [putV]
theorem putV_other {α : Type} (f : Nat→α) {r k : Nat} (v : α) (h : k ≠ r) : putV f r v k = f k:=by simp [putV,h]
/-- One more row, just made. -/
theorem Rows0.more {w : World} {base : Nat} {Dn : Nat→Prop} {vs : Nat→Value} {bs ns : Nat→Nat} (h : Rows0 w base Dn vs bs ns) (r : Nat) (hr : ¬ Dn r) (hb : base≤w.heap.size) :
  Rows0 (w.alloc (.cells (cellsN (zeros (ns r))).toArray 44)) base (fun k=>Dn k∨k = r) (putV vs r (.slice (some ⟨w.heap.size,0,none⟩) (ns r) (ns r))) (putV bs r w.heap.size) ns:=by
 have h2:=h.kept ((Below.refl w.heap.size w).alloc (Nat.le_refl _) (.cells (cellsN (zeros (ns r))).toArray 44))
 have ne : ∀ k,Dn k→k ≠ r:=fun k hk e=>hr (e ▸ hk)
 refine ⟨fun k hk=>?_,fun a b ha hb' na nb e=>?_⟩
 ·by_cases e : k = r
  ·subst e
   rw [putV_same,putV_same]
   exact ⟨_,_,rfl,fun _=>⟨rfl,VarAt.new w _ 44,hb⟩⟩
  ·rw [putV_other _ _ e,putV_other _ _ e]
   exact h2.row k (hk.resolve_right e)
 ·by_cases ea : a = r
  ·by_cases eb : b = r
   ·rw [ea,eb]
   ·rw [ea,putV_same,putV_other _ _ eb] at e
    have:=(h.lt (hb'.resolve_right eb) nb).2
    omega
  ·by_cases eb : b = r
   ·rw [eb,putV_same,putV_other _ _ ea] at e
    have:=(h.lt (ha.resolve_right ea) na).2
    omega
   ·rw [putV_other _ _ ea,putV_other _ _ eb] at e
    exact h.sep a b (ha.resolve_right ea) (hb'.resolve_right eb) na nb e
/-- One more row, of nothing. -/
theorem Rows0.none {w : World} {base : Nat} {Dn : Nat→Prop} {vs : Nat→Value} {bs ns : Nat→Nat} (h : Rows0 w base Dn vs bs ns) (r : Nat) (hr : ¬ Dn r) (hn : ns r = 0) :
  Rows0 w base (fun k=>Dn k∨k = r) (putV vs r (.slice none 0 0)) bs ns:=by
 have ne : ∀ k,Dn k→k ≠ r:=fun k hk e=>hr (e ▸ hk)
 refine ⟨fun k hk=>?_,fun a b ha hb' na nb e=>?_⟩
 ·by_cases e : k = r
  ·subst e
   rw [putV_same,hn]
   exact ⟨_,_,rfl,fun q=>absurd rfl q⟩
  ·rw [putV_other _ _ e]
   exact h.row k (hk.resolve_right e)
 ·refine h.sep a b (ha.resolve_right ?_) (hb'.resolve_right ?_) na nb e
  ·rintro rfl;exact na hn
  ·rintro rfl;exact nb hn
theorem Rows0.imp {w : World} {base : Nat} {Dn Dn' : Nat→Prop} {vs : Nat→Value} {bs ns : Nat→Nat} (h : Rows0 w base Dn vs bs ns) (k : ∀ r,Dn' r→Dn r) : Rows0 w base Dn' vs bs ns :=
 ⟨fun r hr=>h.row r (k r hr),fun r r' a b=>h.sep r r' (k r a) (k r' b)⟩

def zeroR (c : Cd) : List (List Nat):=(shapeC c).map zeros
theorem shp_zero (c : Cd) : shp (zeroR c) = shapeC c:=by
 unfold shp zeroR
 rw [List.map_map]
 have : (List.length ∘ zeros) = id:=by funext n;simp [zeros]
 rw [this,List.map_id]
theorem zero_at (c : Cd) (r j : Nat) : gR (zeroR c) r j = 0:=by
 have h : ∀ o : Option Nat,((o.map zeros).getD []).getD j 0 = 0:=fun o=>by
  cases o with
  | none=>simp
  | some n =>
   simp only [Option.map_some,Option.getD_some,zeros,List.getD,List.getElem?_replicate]
   split <;> simp
 have e : (zeroR c).getD r [] = ((shapeC c)[r]?.map zeros).getD []:=by unfold zeroR;simp only [List.getD,List.getElem?_map]
 unfold gR
 rw [e]
 exact h _
theorem low_zero (c : Cd) : Low c (zeroR c):=⟨shp_zero c,fun T _ _ r j=>by rw [zero_at];exact Sub.zero _⟩
theorem zero_row (c : Cd) {r : Nat} {l : List Nat} (h : (zeroR c)[r]? = some l) : l = zeros ((shapeC c).getD r 0):=by
 unfold zeroR at h
 rw [List.getElem?_map] at h
 obtain ⟨n,h1,rfl⟩:=Option.map_eq_some_iff.1 h
 simp [List.getD,h1]
theorem zeros_nil {n : Nat} : zeros n ≠ []↔n ≠ 0:=by
 unfold zeros
 rw [← List.length_pos_iff,List.length_replicate]
 omega

def cellV (v : Value) : List Value:=[v]
theorem flat_cellV (l : List Value) : l.flatMap cellV = l:=by
 induction l with
 | nil=>rfl
 | cons a l ih=>simp [List.flatMap_cons,cellV,ih]
/-- A row of rows that this call owns, as others read it. -/
theorem out_own {w : World} {base base' top : Nat} {v : Value} {n : Nat} {f : Nat→Value} {Bd : Nat→Prop} (h : w.ownsRow base 33 1 v n ((List.range n).map f)) (hb : base'≤base) (ht : w.heap.size≤top) (hd : ∀ q,v.ownBlock = some q→¬ Bd q) : OutM w base' top v n f Bd:=by
 rcases h.2 with ⟨rfl,h0⟩ | ⟨g,cap,cur,rfl,hbg,hg,hle,hcm,hcs,htk⟩
 ·have hn : n = 0:=by simpa using h0
  subst hn
  exact ⟨none,0,rfl,fun i hi=>by omega⟩
 ·have hlt : g < w.heap.size:=(Array.getElem?_eq_some_iff.1 hg).1
  refine ⟨some ⟨g,0,none⟩,cap,rfl,fun i hi=>⟨g,0,rfl,by omega,by omega,hlt,hd g rfl,?_⟩⟩
  have:=h.cells (g:=g) rfl i (f i) (by simp [hi])
  rw [add_plain,Nat.zero_add] at this
  rw [Nat.zero_add]
  exact this
end Go.Proofs.YtkdpcaoocmbbhaaDoor
