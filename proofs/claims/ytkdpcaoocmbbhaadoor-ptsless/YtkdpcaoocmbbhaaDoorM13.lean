/- Df, Dm, Rx, Ra, So -/
import Derived.Test.YtkdpcaoocmbbhaaDoorDe
import Derived.Test.YtkdpcaoocmbbhaaDoorWt
import Derived.Test.YtkdpcaoocmbbhaaDoorDo
import Derived.Test.YtkdpcaoocmbbhaaDoorM08
import Derived.Test.YtkdpcaoocmbbhaaDoorM11
import Derived.Deep.LoopGhost
import Derived.Deep.DeepCutAuto
/- append of a row of sets; the contract of the document's Flat. -/
namespace Go.Proofs.YtkdpcaoocmbbhaaDoor
open Go.ChangeShapes Go.WideShapes Go.ChangeAt Go.RowKit Go.Deep
set_option linter.unusedVariables false
set_option linter.unusedSimpArgs false

theorem run_append_none' (w : World) (t ty : TypeId) (base : Nat) (e : TypeId) (i : TypeInfo) (size : Nat) (ht : Tryd.prog.underlying t = some (.slice e)) (hi : Tryd.prog.info? e = some i)
  (v : Value) (n c : Nat) (xs : List Value) (hown : w.ownsRow base e size v n xs) : (Builtin.append_ #[t,t] ty #[v,.slice none 0 c]).run Tryd.prog w = .ok v w:=by
 rcases hown.2 with ⟨rfl,rfl⟩ | ⟨g,cap,cur,rfl,hbg,hg,hnc,hcm,hcs,htake⟩
 ·simp [Builtin.append_,run_underlying ht,sizeOf,typeInfo,hi,Builtin.lenOf,Builtin.firstCells]
 ·simp [Builtin.append_,run_underlying ht,sizeOf,typeInfo,hi,Builtin.lenOf,Builtin.firstCells,storeCells,hnc]
theorem cellsN_one (l : List Nat) : ∀ v ∈ cellsN l,v.oneCell' = true:=by
 intro v hv
 obtain ⟨n,-,rfl⟩:=List.mem_map.1 hv
 rfl
theorem run_appendM (w : World) (ty : TypeId) (base : Nat) (v : Value) (n : Nat) (xs : List Value) (hown : w.ownsRow base 44 1 v n xs) (u : Value) (b : Nat) (l : List Nat) (hu : RowM w u b l) (h63 : n + l.length≤2000000) (hbase : base≤w.heap.size) :
  ∃ v' w',(Builtin.append_ #[33,33] ty #[v,u]).run Tryd.prog w = .ok v' w'∧w'.ownsRow base 44 1 v' (n + l.length) (xs ++ cellsN l)∧w.grownBy w' v.ownBlock∧(v'.ownBlock = v.ownBlock∨v'.ownBlock = some w.heap.size):=by
 obtain ⟨a,c,rfl,hv⟩:=hu
 obtain ⟨i,hi,z0,z1,z2⟩:=info_parts info44
 by_cases hl : l = []
 ·subst hl
  cases a with
  | none=>exact ⟨v,w,run_append_none' w 33 ty base 44 i 1 Tryd.underlying33 hi v n c xs hown,by simpa [cellsN] using hown,⟨rfl,rfl,rfl,Nat.le_refl _,fun _ _ _=>rfl⟩,.inl rfl⟩
  | some p =>
   obtain ⟨v',w',hr,h2,h3,_,h5⟩:=run_append_own_at (P:=Tryd.prog) w base 33 ty 44 i (.int .u64 0) 1 8 Tryd.underlying33 hi z0 z1 z2 rfl (by decide) v n xs hown p 0 c [] rfl (fun j u hj=>by simp at hj) (fun u hu=>by cases hu) (by simp only [maxLen];simp at h63;omega) (by simp at h63;omega) hbase
   exact ⟨v',w',hr,h2,h3,h5⟩
 ·obtain ⟨rfl,hv2⟩:=hv hl
  obtain ⟨v',w',hr,h2,h3,_,h5⟩:=run_append_own_at (P:=Tryd.prog) w base 33 ty 44 i (.int .u64 0) 1 8 Tryd.underlying33 hi z0 z1 z2 rfl (by decide) v n xs hown ⟨b,0,none⟩ l.length c (cellsN l) (by simp [cellsN]) (fun j u hj=>by
   have:=hv2.cell j hj
   rw [add_plain,Nat.zero_add]
   exact this) (cellsN_one l) (by simp only [maxLen];omega) (by omega) hbase
  exact ⟨v',w',hr,h2,h3,h5⟩
theorem wp_appendM {w : World} {o : Oper} {a : Act} {K : Act→World→Prop} {Q : Exit→Act→World→Prop} (s x : Operand)
  (ho : o.op = .call ⟨.builtin .append,#[s,x],#[33,33]⟩)
  (base : Nat) (v : Value) (hs : a.eval s = v) (n : Nat) (xs : List Value) (hown : w.ownsRow base 44 1 v n xs) (u : Value) (hx : a.eval x = u) (b : Nat) (l : List Nat) (hu : RowM w u b l) (h63 : n + l.length≤2000000) (hbase : base≤w.heap.size)
  (h : ∀ v' w',w'.ownsRow base 44 1 v' (n + l.length) (xs ++ cellsN l)→w.grownBy w' v.ownBlock→(v'.ownBlock = v.ownBlock∨v'.ownBlock = some w.heap.size)→K (a.put o.dst v') w') : o.wp Tryd.prog a w K Q:=by
 obtain ⟨v',w',hr,h2,h3,h4⟩:=run_appendM w o.type base v n xs hown u b l hu h63 hbase
 unfold Oper.wp execOp
 simp only [ho,resolve,invoke,builtin,Sem.run_bind,Sem.run_pure,Result.andThen_ok,List.map_toArray,List.map_cons,List.map_nil,hs,hx,hr]
 exact h v' w' h2 h3 h4
theorem wl_appendM {w : World} {ops : Array Oper} {rest : List Oper} {o : Oper} {a : Act} {Q : Exit→Act→World→Prop} (hgd : o.guard = none) (s x : Operand)
  (ho : o.op = .call ⟨.builtin .append,#[s,x],#[33,33]⟩)
  (base : Nat) (v : Value) (hs : a.eval s = v) (n : Nat) (xs : List Value) (hown : w.ownsRow base 44 1 v n xs) (u : Value) (hx : a.eval x = u) (b : Nat) (l : List Nat) (hu : RowM w u b l) (h63 : n + l.length≤2000000) (hbase : base≤w.heap.size)
  (h : ∀ v' w',w'.ownsRow base 44 1 v' (n + l.length) (xs ++ cellsN l)→w.grownBy w' v.ownBlock→(v'.ownBlock = v.ownBlock∨v'.ownBlock = some w.heap.size)→wpList Tryd.prog ops Q rest (a.put o.dst v') w') : wpList Tryd.prog ops Q (o :: rest) a w :=
 wpList_plain hgd fun _ hK=>wp_appendM s x ho base v hs n xs hown u hx b l hu h63 hbase fun v' w' h2 h3 h4=>hK _ _ (h v' w' h2 h3 h4)

def rowL (R : List (List Nat)) (r : Nat) : List Nat:=(R.getD r []).length :: R.getD r []
def flatA (nT nS : Nat) (R : List (List Nat)) (j : Nat) : List Nat:=([nT,(R.getD nT []).length,nS] ++ R.getD nT []) ++ (List.range j).flatMap (rowL R)
def flatB (nT nS : Nat) (R : List (List Nat)) (k : Nat) : List Nat:=flatA nT nS R nT ++ (List.range k).flatMap (fun k=>rowL R (nT + 1 + k))
/-- Sets as numbers. -/
def flatR (nT nS : Nat) (R : List (List Nat)) : List Nat:=flatB nT nS R nS
structure SmS (nT nS : Nat) (R : List (List Nat)) : Prop where
 t : nT≤100
 s : nS≤100
 r : ∀ r,(R.getD r []).length≤1000
theorem range_flat {α : Type} (f : Nat→List α) (j : Nat) : (List.range (j + 1)).flatMap f = (List.range j).flatMap f ++ f j:=by
 rw [List.range_succ,List.flatMap_append]
 simp
theorem flatA_succ (nT nS : Nat) (R : List (List Nat)) (j : Nat) : flatA nT nS R (j + 1) = flatA nT nS R j ++ rowL R j:=by
 unfold flatA
 rw [range_flat]
 simp only [List.append_assoc]
theorem flatB_succ (nT nS : Nat) (R : List (List Nat)) (j : Nat) : flatB nT nS R (j + 1) = flatB nT nS R j ++ rowL R (nT + 1 + j):=by
 unfold flatB
 rw [range_flat]
 simp only [List.append_assoc]
theorem cellsN_append (a b : List Nat) : cellsN (a ++ b) = cellsN a ++ cellsN b:=by unfold cellsN;rw [List.map_append]
theorem SetsM.rowAt {w : World} {base top nT nS : Nat} {v0 v1 v2 : Value} {R : List (List Nat)} {V : Nat→Value} {B : Nat→Nat} (h : SetsM w base top nT nS v0 v1 v2 R V B) {r : Nat} (hr : r < R.length) : RowM w (V r) (B r) (R.getD r []):=by
 have:=h.row r R[r] (by simp [hr])
 rwa [← getD_mem' (d:=[]) (show R[r]? = some R[r] by simp [hr])] at this
theorem own_new3 (w : World) (x y z : Nat) : (w.alloc (.cells #[.int .u64 (x : Int),.int .u64 (y : Int),.int .u64 (z : Int)] 44)).ownsRow w.heap.size 44 1 (.slice (some ⟨w.heap.size,0,none⟩) 3 3) 3 (cellsN [x,y,z]) :=
 ⟨rfl,.inr ⟨w.heap.size,3,_,rfl,Nat.le_refl _,heap_alloc_new _ _,Nat.le_refl _,by simp [maxLen],rfl,rfl⟩⟩
theorem rowM_new1 (w : World) (x : Nat) : RowM (w.alloc (.cells #[.int .u64 (x : Int)] 44)) (.slice (some ⟨w.heap.size,0,none⟩) 1 1) w.heap.size [x] :=
 ⟨_,_,rfl,fun _=>⟨rfl,VarAt.new w [.int .u64 (x : Int)] 44⟩⟩

set_option maxRecDepth 100000 in
set_option maxHeartbeats 2000000 in
theorem flat_any {W : World} {base top nT nS : Nat} {v0 v1 v2 : Value} {R : List (List Nat)} {V : Nat→Value} {B : Nat→Nat} (h : SetsM W base top nT nS v0 v1 v2 R V B) (hs : SmS nT nS R) :
  Calls Tryd.prog 19 #[.agg #[v0,v1,v2]] W fun e W'=>∃ u,e = .returned u∧W'.ownsRow (W.heap.size + 1) 44 1 u (flatR nT nS R).length (cellsN (flatR nT nS R))∧(flatR nT nS R).length≤300000∧Below W.heap.size W W':=by
 obtain ⟨s1,q1,fq1⟩:=h.form (r:=nT) (by rw [h.len];omega)
 have f1:=h.one.trans fq1
 have RG:=h.rowAt (r:=nT) (by rw [h.len];omega)
 rw [fq1] at RG
 obtain ⟨s0,q0,f0,ho0⟩:=h.o0
 obtain ⟨s2,q2,f2,ho2⟩:=h.o2
 have gl1:=hs.r nT
 have ht:=hs.t
 have hS:=hs.s
 have H0:=hid (fun i (hi : i < nT)=>(show ∃ b off a cp l,s0 = some ⟨b,off,none⟩∧b < W.heap.size∧W.cell? ⟨b,off + i,none⟩ = some (.slice a l.length cp)∧RowM W (.slice a l.length cp) (B i) l∧l.length≤1000∧rowL R i = l.length :: l from by
  obtain ⟨b,off,g1,-,-,g4,-,g6⟩:=ho0 i hi
  have rm:=h.rowAt (r:=i) (by rw [h.len];omega)
  obtain ⟨xr,xc,gx⟩:=h.form (r:=i) (by rw [h.len];omega)
  rw [gx] at g6 rm
  exact ⟨b,off,xr,xc,R.getD i [],g1,g4,g6,rm,hs.r i,rfl⟩))
 have H2:=hid (fun i (hi : i < nS)=>(show ∃ b off a cp l,s2 = some ⟨b,off,none⟩∧b < W.heap.size∧W.cell? ⟨b,off + i,none⟩ = some (.slice a l.length cp)∧RowM W (.slice a l.length cp) (B (nT + 1 + i)) l∧l.length≤1000∧rowL R (nT + 1 + i) = l.length :: l from by
  obtain ⟨b,off,g1,-,-,g4,-,g6⟩:=ho2 i hi
  have rm:=h.rowAt (r:=nT + 1 + i) (by rw [h.len];omega)
  obtain ⟨xr,xc,gx⟩:=h.form (r:=nT + 1 + i) (by rw [h.len];omega)
  dsimp only at g6
  rw [gx] at g6 rm
  exact ⟨b,off,xr,xc,R.getD (nT + 1 + i) [],g1,g4,g6,rm,hs.r _,rfl⟩))
 have FA:=hid (flatA_succ nT nS R)
 have FB:=hid (flatB_succ nT nS R)
 have FZ : Hid (flatA nT nS R 0 = [nT,(R.getD nT []).length,nS] ++ R.getD nT []):=hid (by simp [flatA])
 rw [f0,f1,f2]
 clear f0 f1 f2 fq1 ho0 ho2 h hs
 generalize hG : R.getD nT [] = lg at *
 replace hG:=hid hG
 have VB:=hid (VarAt.new W [.slice s0 nT q0,.slice s1 lg.length q1,.slice s2 nS q2] 35)
 have k0:=VB.out.cell 0 (v:=.slice s0 nT q0) rfl
 have k1:=VB.out.cell 1 (v:=.slice s1 lg.length q1) rfl
 have k2:=VB.out.cell 2 (v:=.slice s2 nS q2) rfl
 have O3:=own_new3 (W.alloc (.cells #[.slice s0 nT q0,.slice s1 lg.length q1,.slice s2 nS q2] 35)) nT lg.length nS
 simp only [World.size_alloc] at O3
 have BB:=below2 W (.cells #[.slice s0 nT q0,.slice s1 lg.length q1,.slice s2 nS q2] 35) (.cells #[.int .u64 (nT : Int),.int .u64 (lg.length : Int),.int .u64 (nS : Int)] 44)
 have RG2:=hid (RG.touch (T:=fun _=>False) (Touch.of_below BB) (fun _ q=>q))
 have VB2:=hid (VB.out.past (.cells #[.int .u64 (nT : Int),.int .u64 (lg.length : Int),.int .u64 (nS : Int)] 44))
 have hsz : Hid (W.heap.size + 1≤((W.alloc (.cells #[.slice s0 nT q0,.slice s1 lg.length q1,.slice s2 nS q2] 35)).alloc (.cells #[.int .u64 (nT : Int),.int .u64 (lg.length : Int),.int .u64 (nS : Int)] 44)).heap.size):=hid (by simp)
 replace O3:=hid O3
 replace BB:=hid BB
 go_enter Tryd.func19,Tryd.ntmps19
 go_wp2_with (at_builtin;refine wl_appendM rfl _ _ rfl (W.heap.size + 1) (.slice (some ⟨W.heap.size + 1,0,none⟩) 3 3) rfl 3 _ O3.out _ rfl (B nT) lg RG2.out (by omega) hsz.out ?_;intro v5 w5 o5 g5 h5;have T5:=grown_touch g5 O3.out;have B5:=hid (below_touch BB.out T5 (fun b hb q=>by have:=(own_lt O3.out q).1;omega));have V5:=hid (VB2.out.touch T5 (fun q=>by have:=(own_lt O3.out q).1;omega));obtain ⟨p5,c5,rfl⟩:=own_slice o5;rw [← cellsN_append,← FZ.out] at o5;have O5:=hid o5;have k5:=V5.out.cell 0 (v:=.slice s0 nT q0) rfl;clear o5 g5 h5 T5 O3 BB RG2 VB2 hsz RG)
 go_loopw [3,28] (fun t3 t wr=>∃ (j m cp : Nat) (p : Option Addr),t = .int .i64 j∧j≤nT∧t3 = .slice p m cp∧m≤1003 + 1001 * j∧Hid (wr.ownsRow (W.heap.size + 1) 44 1 (.slice p m cp) m (cellsN (flatA nT nS R j)))∧Hid (Below W.heap.size W wr)∧Hid (VarAt wr W.heap.size [.slice s0 nT q0,.slice s1 lg.length q1,.slice s2 nS q2] 35)) (fun _ t _=>nT - (intOf t).toNat)
 case atStart=>exact ⟨0,_,_,_,rfl,by omega,rfl,by omega,O5,B5,V5⟩
 case round =>
  clear O5 B5 V5 k5
  obtain ⟨j,m,cp,p,rfl,hj,rfl,hm,OJ,BJ,VJ⟩:=hrel
  by_cases hjn : j < nT
  ·obtain ⟨b,off,a,lc,l,rfl,hb,hc,rm,hll,hrl⟩:=H0.out j hjn
   rw [← BJ.out.cell hb] at hc
   have e1:=FA.out j
   rw [hrl] at e1
   have RMW:=hid rm
   have ha:=(Below.refl wr.heap.size wr).alloc (Nat.le_refl _) (.cells #[.int .u64 (l.length : Int)] 44)
   have OX:=hid (own_keep OJ.out (fun g hg hl=>ha.block g hl))
   have R1:=hid (rowM_new1 wr l.length)
   have BX:=hid (BJ.out.alloc BJ.out.size (.cells #[.int .u64 (l.length : Int)] 44))
   have VX:=hid (VJ.out.past (.cells #[.int .u64 (l.length : Int)] 44))
   have hsx : Hid (W.heap.size + 1≤(wr.alloc (.cells #[.int .u64 (l.length : Int)] 44)).heap.size):=hid (by have:=VX.out.lt;omega)
   replace e1:=hid e1
   clear rm hrl ha FA FB H0 H2
   go_wp2_with (first
    | (at_builtin;refine wl_appendM rfl _ _ rfl (W.heap.size + 1) (.slice p m cp) rfl m _ OX.out _ rfl wr.heap.size [l.length] R1.out (by simp;omega) hsx.out ?_;intro v5 w5 o5 g5 h5;have T5:=grown_touch g5 OX.out;have B5:=hid (below_touch BX.out T5 (fun b hb q=>by have:=(own_lt OX.out q).1;omega));have V5:=hid (VX.out.touch T5 (fun q=>by have:=(own_lt OX.out q).1;omega));obtain ⟨p5,c5,rfl⟩:=own_slice o5;rw [← cellsN_append,List.length_singleton] at o5;have O5:=hid o5;have h5z : Hid (W.heap.size + 1≤w5.heap.size):=hid (by have:=V5.out.lt;omega);have R5:=hid (RMW.out.touch (T:=fun _=>False) (Touch.of_below B5.out) (fun _ q=>q));clear o5 g5 h5 T5 OX R1 VX BX RMW hsx)
    | (at_builtin;refine wl_appendM rfl _ _ rfl (W.heap.size + 1) (.slice p5 (m + 1) c5) rfl (m + 1) _ O5.out _ rfl (B j) l R5.out (by omega) h5z.out ?_;intro v6 w6 o6 g6 h6;have T6:=grown_touch g6 O5.out;have B6:=hid (below_touch B5.out T6 (fun b hb q=>by have:=(own_lt O5.out q).1;omega));have V6:=hid (V5.out.touch T6 (fun q=>by have:=(own_lt O5.out q).1;omega));obtain ⟨p6,c6,rfl⟩:=own_slice o6;rw [← cellsN_append,List.append_assoc] at o6;have O6 : Hid (w6.ownsRow (W.heap.size + 1) 44 1 (.slice p6 (m + 1 + l.length) c6) (m + 1 + l.length) (cellsN (flatA nT nS R (j + 1)))):=hid (by rw [e1.out];exact o6);clear o6 g6 h6 T6 O5 V5 B5 R5 h5z))
   go_roundw
   case rel=>exact ⟨j + 1,m + 1 + l.length,c6,p6,by go_num,by omega,rfl,by omega,O6,B6,V6⟩
   case measure=>simp [intOf];omega
  ·have e : j = nT:=by omega
   subst e
   obtain ⟨i,rfl⟩ : ∃ i : Nat,i = j:=⟨j,rfl⟩
   have OB : Hid (wr.ownsRow (W.heap.size + 1) 44 1 (.slice p m cp) m (cellsN (flatB i nS R 0))):=hid (by rw [show flatB i nS R 0 = flatA i nS R i by simp [flatB]];exact OJ.out)
   have k6:=VJ.out.cell 2 (v:=.slice s2 nS q2) rfl
   clear OJ FA H0
   go_wp2_with fail
   go_loopw [3,44] (fun t3 t wr=>∃ (j m cp : Nat) (p : Option Addr),t = .int .i64 j∧j≤nS∧t3 = .slice p m cp∧m≤101103 + 1001 * j∧Hid (wr.ownsRow (W.heap.size + 1) 44 1 (.slice p m cp) m (cellsN (flatB i nS R j)))∧Hid (Below W.heap.size W wr)∧Hid (VarAt wr W.heap.size [.slice s0 i q0,.slice s1 lg.length q1,.slice s2 nS q2] 35)) (fun _ t _=>nS - (intOf t).toNat)
   case atStart=>exact ⟨0,_,_,_,rfl,by omega,rfl,by omega,OB,BJ,VJ⟩
   case round =>
    clear OB BJ VJ k6
    obtain ⟨j,m,cp,p,rfl,hj,rfl,hm,OJ,BJ,VJ⟩:=hrel
    by_cases hjn : j < nS
    ·obtain ⟨b,off,a,lc,l,rfl,hb,hc,rm,hll,hrl⟩:=H2.out j hjn
     rw [← BJ.out.cell hb] at hc
     have e1:=FB.out j
     rw [hrl] at e1
     have RMW:=hid rm
     have ha:=(Below.refl wr.heap.size wr).alloc (Nat.le_refl _) (.cells #[.int .u64 (l.length : Int)] 44)
     have OX:=hid (own_keep OJ.out (fun g hg hl=>ha.block g hl))
     have R1:=hid (rowM_new1 wr l.length)
     have BX:=hid (BJ.out.alloc BJ.out.size (.cells #[.int .u64 (l.length : Int)] 44))
     have VX:=hid (VJ.out.past (.cells #[.int .u64 (l.length : Int)] 44))
     have hsx : Hid (W.heap.size + 1≤(wr.alloc (.cells #[.int .u64 (l.length : Int)] 44)).heap.size):=hid (by have:=VX.out.lt;omega)
     replace e1:=hid e1
     clear rm hrl ha FB H2
     go_wp2_with (first
      | (at_builtin;refine wl_appendM rfl _ _ rfl (W.heap.size + 1) (.slice p m cp) rfl m _ OX.out _ rfl wr.heap.size [l.length] R1.out (by simp;omega) hsx.out ?_;intro v5 w5 o5 g5 h5;have T5:=grown_touch g5 OX.out;have B5:=hid (below_touch BX.out T5 (fun b hb q=>by have:=(own_lt OX.out q).1;omega));have V5:=hid (VX.out.touch T5 (fun q=>by have:=(own_lt OX.out q).1;omega));obtain ⟨p5,c5,rfl⟩:=own_slice o5;rw [← cellsN_append,List.length_singleton] at o5;have O5:=hid o5;have h5z : Hid (W.heap.size + 1≤w5.heap.size):=hid (by have:=V5.out.lt;omega);have R5:=hid (RMW.out.touch (T:=fun _=>False) (Touch.of_below B5.out) (fun _ q=>q));clear o5 g5 h5 T5 OX R1 VX BX RMW hsx)
      | (at_builtin;refine wl_appendM rfl _ _ rfl (W.heap.size + 1) (.slice p5 (m + 1) c5) rfl (m + 1) _ O5.out _ rfl (B (i + 1 + j)) l R5.out (by omega) h5z.out ?_;intro v6 w6 o6 g6 h6;have T6:=grown_touch g6 O5.out;have B6:=hid (below_touch B5.out T6 (fun b hb q=>by have:=(own_lt O5.out q).1;omega));have V6:=hid (V5.out.touch T6 (fun q=>by have:=(own_lt O5.out q).1;omega));obtain ⟨p6,c6,rfl⟩:=own_slice o6;rw [← cellsN_append,List.append_assoc] at o6;have O6 : Hid (w6.ownsRow (W.heap.size + 1) 44 1 (.slice p6 (m + 1 + l.length) c6) (m + 1 + l.length) (cellsN (flatB i nS R (j + 1)))):=hid (by rw [e1.out];exact o6);clear o6 g6 h6 T6 O5 V5 B5 R5 h5z))
     go_roundw
     case rel=>exact ⟨j + 1,m + 1 + l.length,c6,p6,by go_num,by omega,rfl,by omega,O6,B6,V6⟩
     case measure=>simp [intOf];omega
    ·have e : j = nS:=by omega
     subst e
     have hlen : m = (flatR i j R).length:=by
      have:=OJ.out.1
      rw [cellsN_len,Nat.mul_one] at this
      exact this.symm
     have OF : Hid (wr.ownsRow (W.heap.size + 1) 44 1 (.slice p m cp) (flatR i j R).length (cellsN (flatR i j R))):=hid (by rw [← hlen];exact OJ.out)
     have hfin : Hid ((flatR i j R).length≤300000):=hid (by rw [← hlen];omega)
     replace hlen:=hid hlen
     clear OJ
     go_wp2_with fail
     go_ret
     exact ⟨_,rfl,OF.out,hfin.out,BJ.out⟩
end Go.Proofs.YtkdpcaoocmbbhaaDoor
/- The contract of the document's Same. -/
namespace Go.Proofs.YtkdpcaoocmbbhaaDoor
open Go.ChangeShapes Go.WideShapes Go.ChangeAt Go.RowKit Go.Deep
set_option linter.unusedVariables false
set_option linter.unusedSimpArgs false

theorem own_cells {w : World} {base : Nat} {v : Value} {l : List Nat} (h : w.ownsRow base 44 1 v l.length (cellsN l)) : ∃ a c,v = .slice a l.length c∧∀ q,q < l.length→∃ g,a = some ⟨g,0,none⟩∧base≤g∧g < w.heap.size∧w.cell? ⟨g,q,none⟩ = some (.int .u64 ((l.getD q 0 : Nat) : Int)):=by
 rcases h.2 with ⟨rfl,h0⟩ | ⟨g,cap,cur,rfl,hbg,hg,hle,hcm,hcs,htk⟩
 ·exact ⟨none,0,by rw [h0],fun q hq=>by omega⟩
 ·refine ⟨_,_,rfl,fun q hq=>⟨g,rfl,hbg,(Array.getElem?_eq_some_iff.1 hg).1,?_⟩⟩
  have:=h.cells (g:=g) rfl q _ (cellsN_at hq)
  rwa [add_plain,Nat.zero_add] at this
theorem six {W X : World} {x0 x1 x2 y0 y1 y2 : Value} (h : VarAt X W.heap.size [x0,x1,x2] 35) (k : VarAt X (W.heap.size + 1) [y0,y1,y2] 35) : X.cell? ⟨W.heap.size,0,none⟩ = some x0∧X.cell? ⟨W.heap.size,1,none⟩ = some x1∧X.cell? ⟨W.heap.size,2,none⟩ = some x2∧X.cell? ⟨W.heap.size + 1,0,none⟩ = some y0∧X.cell? ⟨W.heap.size + 1,1,none⟩ = some y1∧X.cell? ⟨W.heap.size + 1,2,none⟩ = some y2 :=
 ⟨h.cell 0 rfl,h.cell 1 rfl,h.cell 2 rfl,k.cell 0 rfl,k.cell 1 rfl,k.cell 2 rfl⟩
theorem flat_bits {nT nS : Nat} {R : List (List Nat)} (hs : SmS nT nS R) (hU : AllU R) : ∀ q,(flatR nT nS R).getD q 0 < 2 ^ 64:=by
 have rl : ∀ r,∀ x ∈ rowL R r,x < 2 ^ 64:=fun r x hx=>by
  unfold rowL at hx
  rw [List.mem_cons] at hx
  rcases hx with rfl | hx
  ·have:=hs.r r;omega
  ·obtain ⟨k,hk,rfl⟩:=List.getElem_of_mem hx
   have:=hU r k
   unfold gR at this
   rwa [getD_mem' (l:=R.getD r []) (i:=k) (List.getElem?_eq_getElem hk)] at this
 have al : ∀ x ∈ flatR nT nS R,x < 2 ^ 64:=fun x hx=>by
  unfold flatR flatB flatA at hx
  simp only [List.mem_append,List.mem_flatMap] at hx
  rcases hx with ((hx | hx) | ⟨r,_,hx⟩) | ⟨r,_,hx⟩
  ·simp only [List.mem_cons,List.not_mem_nil,or_false] at hx
   have:=hs.t;have:=hs.s;have:=hs.r nT
   rcases hx with rfl | rfl | rfl <;> omega
  ·exact rl nT x (List.mem_cons_of_mem _ hx)
  ·exact rl r x hx
  ·exact rl _ x hx
 intro q
 by_cases h : q < (flatR nT nS R).length
 ·rw [getD_mem' (i:=q) (x:=(flatR nT nS R)[q]) (by simp [h])]
  exact al _ (List.getElem_mem h)
 ·rw [List.getD,List.getElem?_eq_none (by omega)]
  show (0 : Nat) < _
  decide
theorem list_ext' {a b : List Nat} (hl : a.length = b.length) (h : ∀ q,q < a.length→a.getD q 0 = b.getD q 0) : a = b:=by
 apply List.ext_getElem hl
 intro k h1 h2
 have:=h k h1
 rwa [getD_mem' (i:=k) (x:=a[k]) (by simp [h1]),getD_mem' (i:=k) (x:=b[k]) (by simp [h2])] at this

set_option maxRecDepth 100000 in
set_option maxHeartbeats 2000000 in
theorem same_any {W : World} {base top nT nS : Nat} {v0 v1 v2 : Value} {R : List (List Nat)} {V : Nat→Value} {B : Nat→Nat} (h : SetsM W base top nT nS v0 v1 v2 R V B) (hs : SmS nT nS R) (hU : AllU R)
  {base' top' nT' nS' : Nat} {v0' v1' v2' : Value} {R' : List (List Nat)} {V' : Nat→Value} {B' : Nat→Nat} (h' : SetsM W base' top' nT' nS' v0' v1' v2' R' V' B') (hs' : SmS nT' nS' R') (hU' : AllU R') :
  Calls Tryd.prog 10 #[.agg #[v0,v1,v2],.agg #[v0',v1',v2']] W fun e W'=>e = .returned (.bool (decide (flatR nT nS R = flatR nT' nS' R')))∧Below W.heap.size W W':=by
 have CA:=hid (fun X (hX : Below W.heap.size W X)=>flat_any (h.kept hX) hs)
 have CB:=hid (fun X (hX : Below W.heap.size W X)=>flat_any (h'.kept hX) hs')
 have LA:=hid (flat_bits hs hU)
 have LB:=hid (flat_bits hs' hU')
 obtain ⟨a0,m0,c0,a1,m1,c1,a2,m2,c2,rfl,rfl,rfl⟩:=h.ones
 obtain ⟨b0,k0,d0,b1,k1,d1,b2,k2,d2,rfl,rfl,rfl⟩:=h'.ones
 clear h h' hs hs' hU hU'
 have KB:=VarAt.new (W.alloc (.cells #[.slice a0 m0 c0,.slice a1 m1 c1,.slice a2 m2 c2] 35)) [.slice b0 k0 d0,.slice b1 k1 d1,.slice b2 k2 d2] 35
 simp only [World.size_alloc] at KB
 replace KB:=hid (KB.kept (Below.refl _ _).drew)
 have KA:=hid (((VarAt.new W [.slice a0 m0 c0,.slice a1 m1 c1,.slice a2 m2 c2] 35).past (.cells #[.slice b0 k0 d0,.slice b1 k1 d1,.slice b2 k2 d2] 35)).kept (Below.refl _ _).drew)
 have BX:=hid (below2 W (.cells #[.slice a0 m0 c0,.slice a1 m1 c1,.slice a2 m2 c2] 35) (.cells #[.slice b0 k0 d0,.slice b1 k1 d1,.slice b2 k2 d2] 35)).drew
 generalize flatR nT nS R = la at *
 generalize flatR nT' nS' R' = lb at *
 go_enter Tryd.func10,Tryd.ntmps10
 go_wp2_with fail
 refine wp_region_held_drew (S:=fun (w' : World)=>w'.cell? ⟨W.heap.size,0,none⟩ = some (.slice a0 m0 c0)∧w'.cell? ⟨W.heap.size,1,none⟩ = some (.slice a1 m1 c1)∧w'.cell? ⟨W.heap.size,2,none⟩ = some (.slice a2 m2 c2)∧w'.cell? ⟨W.heap.size + 1,0,none⟩ = some (.slice b0 k0 d0)∧w'.cell? ⟨W.heap.size + 1,1,none⟩ = some (.slice b1 k1 d1)∧w'.cell? ⟨W.heap.size + 1,2,none⟩ = some (.slice b2 k2 d2)) (by kernel_rfl) (six KA.out KB.out) (fun hHeld=>?_)
 refine wT 0 ⟨some 8,.load 35 (.tmp 2),35,"ref.go:122",#[],none⟩ hHeld ?_
 try simp only [Act.put,sA,sB,sC]
 refine wT 2 ⟨some 10,.load 35 (.tmp 3),35,"ref.go:122",#[],none⟩ hHeld ?_
 try simp only [Act.put,sA,sB,sC]
 refine wO 1 ⟨some 9,.call ⟨.value (.func 19),#[.tmp 8],#[35]⟩,33,"ref.go:122",#[⟨0,.data⟩],none⟩ (fun K' hK'=>?_)
 go_simp
 go_at_call 19
 refine Calls.mono (CA.out _ BX.out) ?_
 rintro _ w1 ⟨u1,rfl,o1,hsm1,hb⟩
 replace BX:=hid (BX.out.trans (hb.mono BX.out.size))
 replace KA:=hid (KA.out.kept hb)
 replace KB:=hid (KB.out.kept hb)
 have hz:=hid (six KA.out KB.out)
 have O1:=hid o1
 clear o1 hb
 refine hK'.out _ _ hz.out (fun hHeld=>?_)
 clear hK' K'
 try simp only [Act.put,sA,sB,sC]
 refine wO 3 ⟨some 11,.call ⟨.value (.func 19),#[.tmp 10],#[35]⟩,33,"ref.go:122",#[⟨2,.data⟩,⟨1,.chain⟩],none⟩ (fun K' hK'=>?_)
 go_simp
 go_at_call 19
 refine Calls.mono (CB.out _ BX.out) ?_
 rintro _ w2 ⟨u2,rfl,o2,hsm2,hb⟩
 replace BX:=hid (BX.out.trans (hb.mono BX.out.size))
 replace KA:=hid (KA.out.kept hb)
 replace KB:=hid (KB.out.kept hb)
 replace O1:=hid (own_keep O1.out (fun g hg hl=>hb.block g hl))
 have hz:=hid (six KA.out KB.out)
 have O2:=hid o2
 clear o2 hb
 refine hK'.out _ _ hz.out (fun hHeld=>?_)
 clear hK' K'
 try simp only [Act.put,sA,sB,sC]
 refine wT 4 ⟨some 5,.assign (.tmp 9),33,"ref.go:122",#[⟨1,.data⟩,⟨3,.chain⟩,⟨0,.phase⟩,⟨1,.phase⟩,{ on:=2,ground:=Go.Ground.textOnly Go.Departure.lateStores },{ on:=3,ground:=Go.Ground.textOnly Go.Departure.lateStoresUnsure }],none⟩ hHeld ?_
 try simp only [Act.put,sA,sB,sC]
 refine wT 5 ⟨some 6,.assign (.tmp 11),33,"ref.go:122",#[⟨3,.data⟩,⟨4,.chain⟩,⟨0,.phase⟩,⟨1,.phase⟩,⟨2,.phase⟩,⟨3,.phase⟩,⟨4,.phase⟩],none⟩ hHeld ?_
 try simp only [Act.put,sA,sB,sC]
 refine wpAnyH_done (by kernel_rfl) ?_ _
 clear hHeld
 obtain ⟨pa,ca,rfl,ha⟩:=own_cells O1.out
 obtain ⟨pb,cb,rfl,hb⟩:=own_cells O2.out
 have HA:=hid ha
 have HB:=hid hb
 clear ha hb O1 O2 hz CA CB KA KB
 by_cases hl : la.length = lb.length
 ·have hl2:=hl
  generalize hna : la.length = na at *
  rw [← hl2]
  replace hl:=hid hl
  replace hl2:=hid hl2
  replace hna:=hid hna
  go_wp2_with fail
  go_loopw [19] (fun t wr=>∃ (j : Nat),t = .int .i64 j∧j≤na∧Hid (∀ q,q < j→la.getD q 0 = lb.getD q 0)∧Hid (Below w2.heap.size w2 wr)) (fun t _=>na - (intOf t).toNat)
  case atStart=>exact ⟨0,rfl,by omega,hid (fun q hq=>by omega),hid (Below.refl _ _)⟩
  case round =>
   obtain ⟨j,rfl,hj,EQ,BW⟩:=hrel
   by_cases hjn : j < na
   ·obtain ⟨ga,rfl,-,g1,g2⟩:=HA.out j hjn
    obtain ⟨gb,rfl,-,g3,g4⟩:=HB.out j (by have:=hl2.out;omega)
    have y1:=(BW.out.cell (p:=⟨ga,j,none⟩) g1).trans g2
    have y2:=(BW.out.cell (p:=⟨gb,j,none⟩) g3).trans g4
    have z1:=LA.out j
    have z2:=LB.out j
    have hjI : (j : Int) < (na : Int):=by omega
    generalize hx : la.getD j 0 = x at *
    generalize hy : lb.getD j 0 = y at *
    clear g1 g2 g3 g4 HA HB LA LB
    by_cases hxy : x = y
    ·have E2 : Hid (∀ q,q < j + 1→la.getD q 0 = lb.getD q 0):=hid (fun q hq=>by
      by_cases e : q = j
      ·rw [e,hx,hy,hxy]
      ·exact EQ.out q (by omega))
     subst hxy
     clear hx hy EQ
     go_wp2_with fail
     go_quiet (fail)
     go_wp2_with fail
     go_roundw
     case rel=>exact ⟨j + 1,by go_num,by omega,E2,hid (below_drewN BW.out _)⟩
     case measure=>simp [intOf];omega
    ·have hne : Hid (decide (la = lb) = false):=hid (decide_eq_false (fun e=>hxy (by rw [← hx,← hy,e])))
     have hxi : ¬ ((x : Int) = (y : Int)):=fun e=>hxy (by omega)
     clear hx hy EQ
     go_wp2_with fail
     go_quiet (fail)
     go_wp2_with fail
     go_ret
     exact ⟨retB hne.out.symm,BX.out.trans ((below_drewN BW.out _).mono BX.out.size)⟩
   ·have e : j = na:=by omega
    subst e
    have he : Hid (decide (la = lb) = true):=hid (decide_eq_true (list_ext' (by rw [hna.out];exact hl2.out) (fun q hq=>EQ.out q (by rw [hna.out] at hq;exact hq))))
    clear HA HB LA LB EQ
    go_wp2_with fail
    go_ret
    exact ⟨retB he.out.symm,BX.out.trans (BW.out.mono BX.out.size)⟩
 ·have hne : Hid (decide (la = lb) = false):=hid (decide_eq_false (fun e=>hl (by rw [e])))
  have hli : ¬ ((la.length : Int) = (lb.length : Int)):=fun e=>hl (by omega)
  clear HA HB LA LB
  go_wp2
  go_ret
  exact ⟨retB hne.out.symm,BX.out⟩
end Go.Proofs.YtkdpcaoocmbbhaaDoor
/- Sets as numbers tell the sets. -/
namespace Go.Proofs.YtkdpcaoocmbbhaaDoor
set_option linter.unusedVariables false

theorem row_small {c : Cd} {R : List (List Nat)} (g : GoodP c) (h : shp R = shapeC c) (r : Nat) : (R.getD r []).length≤64:=by
 rw [row_len,h]
 rcases Nat.lt_trichotomy r c.threads.length with q | q | q
 ·rw [shape_slots c (i:=r) (t:=c.threads[r]) (by simp [q])]
  exact (g.ths r _ (by simp [q])).1
 ·rw [q,shape_globs]
  have:=g.l2
  omega
 ·by_cases e : r < c.threads.length + 1 + c.sites.length
  ·obtain ⟨k,rfl⟩ : ∃ k,r = c.threads.length + 1 + k:=⟨r - (c.threads.length + 1),by omega⟩
   have hk : k < c.sites.length:=by omega
   rw [shape_site c (k:=k) (s:=c.sites[k]) (by simp [hk])]
   unfold fldN
   split
   ·omega
   ·rename_i hrc
    simp only [List.getD]
    cases hq : c.recs[(c.sites[k]).rc.toNat]? with
    | none=>simp [Rl.z]
    | some q =>
     have:=g.flds _ q hq
     show q.flds.length≤64
     omega
  ·have : (shapeC c).getD r 0 = 0:=by
    simp only [List.getD]
    rw [List.getElem?_eq_none (by rw [shape_len];omega)]
    rfl
   omega
theorem range_inj {f g : Nat→List Nat} : ∀ n,(∀ k,k < n→(f k).length = (g k).length)→(List.range n).flatMap f = (List.range n).flatMap g→∀ k,k < n→f k = g k
 | 0,_,_,k,hk=>by omega
 | n + 1,hl,h,k,hk=>by
  rw [range_flat,range_flat] at h
  obtain ⟨h1,h2⟩:=List.append_inj' h (hl n (by omega))
  by_cases e : k = n
  ·subst e;exact h2
  ·exact range_inj n (fun k hk=>hl k (by omega)) h1 k (by omega)
theorem range_len {f g : Nat→List Nat} (h : ∀ k,(f k).length = (g k).length) (n : Nat) : ((List.range n).flatMap f).length = ((List.range n).flatMap g).length:=by
 induction n with
 | zero=>rfl
 | succ n ih=>rw [range_flat,range_flat,List.length_append,List.length_append,ih,h]
theorem flat_inj {nT nS : Nat} {R R' : List (List Nat)} (hl : R.length = nT + 1 + nS) (hs : shp R = shp R') (h : flatR nT nS R = flatR nT nS R') : R = R':=by
 have hr : ∀ r,(R.getD r []).length = (R'.getD r []).length:=fun r=>by rw [row_len,row_len,hs]
 have hw : ∀ r,(rowL R r).length = (rowL R' r).length:=fun r=>by
  show (R.getD r []).length + 1 = (R'.getD r []).length + 1
  rw [hr]
 unfold flatR flatB flatA at h
 obtain ⟨h1,h2⟩:=List.append_inj' h (range_len (fun k=>hw _) _)
 obtain ⟨h3,h4⟩:=List.append_inj' h1 (range_len (fun k=>hw _) _)
 obtain ⟨h5,h6⟩:=List.append_inj' h3 (hr nT)
 have A:=range_inj nT (fun k _=>hw k) h4
 have C:=range_inj nS (fun k _=>hw _) h2
 have row : ∀ r,R.getD r [] = R'.getD r []:=fun r=>by
  rcases Nat.lt_trichotomy r nT with q | q | q
  ·exact (List.cons.inj (A r q)).2
  ·rw [q];exact h6
  ·by_cases e : r < nT + 1 + nS
   ·obtain ⟨k,rfl⟩ : ∃ k,r = nT + 1 + k:=⟨r - (nT + 1),by omega⟩
    exact (List.cons.inj (C k (by omega))).2
   ·have l' : R'.length = R.length:=by have:=congrArg List.length hs;simpa [shp] using this.symm
    simp only [List.getD]
    rw [List.getElem?_eq_none (by omega),List.getElem?_eq_none (by omega)]
 exact R_ext hs (fun r j=>by unfold gR;rw [row])
theorem sms_good {c : Cd} {R : List (List Nat)} (g : GoodP c) (h : shp R = shapeC c) : SmS c.threads.length c.sites.length R :=
 ⟨by have:=g.l3;omega,by have:=g.l4;omega,fun r=>Nat.le_trans (row_small g h r) (by omega)⟩
theorem len_shape {c : Cd} {R : List (List Nat)} (h : shp R = shapeC c) : R.length = c.threads.length + 1 + c.sites.length:=by
 have:=congrArg List.length h
 rw [shape_len] at this
 simpa [shp] using this

end Go.Proofs.YtkdpcaoocmbbhaaDoor
/- Round: what it holds; sets copied. -/
namespace Go.Proofs.YtkdpcaoocmbbhaaDoor
open Go.ChangeShapes Go.WideShapes Go.ChangeAt Go.RowKit Go.Deep
set_option linter.unusedVariables false
set_option linter.unusedSimpArgs false

/-- What Round holds: the code, the sets that it was handed, its answer's box, and the sets that grow. -/
structure Rnd (W : World) (sb base top : Nat) (c : Cd) (v0 v1 v2 u0 u1 u2 : Value) (R1 : List (List Nat)) (V1 : Nat→Value) (B1 : Nat→Nat) (X : World) : Prop where
 b0 : VarAt X W.heap.size [c.rv,c.gv,c.tv,c.ev,c.cv] 28
 b1 : VarAt X (W.heap.size + 1) [v0,v1,v2] 35
 b2 : VarAt X (W.heap.size + 2) [.slice none 0 0,.slice none 0 0,.slice none 0 0] 35
 bo : VarAt X sb [u0,u1,u2] 35
 sets : SetsM X base top c.threads.length c.sites.length u0 u1 u2 R1 V1 B1
 ab : W.heap.size + 3≤base∧top≤sb
 bel : Below W.heap.size W X
section
variable {W : World} {sb base top : Nat} {c : Cd} {v0 v1 v2 u0 u1 u2 : Value} {R R1 : List (List Nat)} {V1 : Nat→Value} {B1 : Nat→Nat} {X X' : World}
theorem Rnd.kept (h : Rnd W sb base top c v0 v1 v2 u0 u1 u2 R1 V1 B1 X) (k : Below X.heap.size X X') : Rnd W sb base top c v0 v1 v2 u0 u1 u2 R1 V1 B1 X' :=
 ⟨h.b0.kept k,h.b1.kept k,h.b2.kept k,h.bo.kept k,h.sets.kept k,h.ab,h.bel.trans (k.mono h.bel.size)⟩
theorem Rnd.drew (h : Rnd W sb base top c v0 v1 v2 u0 u1 u2 R1 V1 B1 X) : Rnd W sb base top c v0 v1 v2 u0 u1 u2 R1 V1 B1 X.drew:=h.kept (Below.refl _ _).drew
theorem Rnd.stored (h : Rnd W sb base top c v0 v1 v2 u0 u1 u2 R1 V1 B1 X) {r j v : Nat} (hj : j < (R1.getD r []).length) (hv : VarAt X' (B1 r) ((cellsN (R1.getD r [])).set j (.int .u64 (v : Int))) 44) (ht : Turned (B1 r) X X') : Rnd W sb base top c v0 v1 v2 u0 u1 u2 (setR R1 r j v) V1 B1 X':=by
 obtain ⟨cc,-,-,l1,l2,-⟩:=h.sets.at hj
 have hab:=h.ab
 refine ⟨ht.var h.b0 (by omega),ht.var h.b1 (by omega),ht.var h.b2 (by omega),ht.var h.bo (by omega),h.sets.set r j v hj ht.t1 (fun b _ _ hb e=>hb e) (by rw [← cellsN_set];exact hv),hab,ht.below h.bel (by omega)⟩
/-- A row of the sets that grow. -/
theorem Rnd.rowG (h : Rnd W sb base top c v0 v1 v2 u0 u1 u2 R1 V1 B1 X) {j : Nat} (hj : j < (R1.getD c.threads.length []).length) : ∃ cp,u1 = .slice (some ⟨B1 c.threads.length,0,none⟩) (R1.getD c.threads.length []).length cp∧VarAt X (B1 c.threads.length) (cellsN (R1.getD c.threads.length [])) 44:=by
 obtain ⟨cp,e,hv,-⟩:=h.sets.at hj
 exact ⟨cp,h.sets.one.trans e,hv⟩
end

/-- Some sets are as another's. -/
def Cpy (R R1 : List (List Nat)) (P : Nat→Nat→Prop) : Prop:=shp R1 = shp R∧∀ r j,P r j→gR R1 r j = gR R r j
theorem Cpy.step {R R1 : List (List Nat)} {P P' : Nat→Nat→Prop} (h : Cpy R R1 P) {r j : Nat} (hj : j < (R1.getD r []).length) (k : ∀ r' j',P' r' j'→P r' j'∨(r' = r∧j' = j)) : Cpy R (setR R1 r j (gR R r j)) P':=by
 refine ⟨(shp_set _ _ _ _).trans h.1,fun r' j' hp=>?_⟩
 rw [gR_set hj]
 by_cases e : r' = r∧j' = j
 ·rw [if_pos e,e.1,e.2]
 ·rw [if_neg e];exact h.2 r' j' ((k r' j' hp).resolve_right e)
theorem Cpy.imp {R R1 : List (List Nat)} {P P' : Nat→Nat→Prop} (h : Cpy R R1 P) (k : ∀ r' j',j' < (R.getD r' []).length→P' r' j'→P r' j') : Cpy R R1 P' :=
 ⟨h.1,fun r j hp=>by
  by_cases hj : j < (R.getD r []).length
  ·exact h.2 r j (k r j hj hp)
  ·rw [gR_out hj,gR_out (by rw [row_len,h.1,← row_len];exact hj)]⟩
theorem Cpy.all {R R1 : List (List Nat)} {P : Nat→Nat→Prop} (h : Cpy R R1 P) (k : ∀ r j,j < (R.getD r []).length→P r j) : R1 = R :=
 R_ext h.1 fun r j=>(h.imp (P':=fun _ _=>True) (fun r' j' hj _=>k r' j' hj)).2 r j trivial
theorem Cpy.len {R R1 : List (List Nat)} {P : Nat→Nat→Prop} (h : Cpy R R1 P) (r : Nat) : (R1.getD r []).length = (R.getD r []).length:=by rw [row_len,h.1,← row_len]
end Go.Proofs.YtkdpcaoocmbbhaaDoor
/- What both Solves answer, as one; Same of them. -/
namespace Go.Proofs.YtkdpcaoocmbbhaaDoor
open Go.ChangeShapes Go.WideShapes Go.ChangeAt Go.RowKit Go.Deep
set_option linter.unusedVariables false
set_option linter.unusedSimpArgs false

/-- What a Solve has answered. -/
def SolAt (c : Cd) (v0 v1 v2 : Value) (w : World) : Prop :=
 (GoodP c→∃ base top R V B,SetsM w base top c.threads.length c.sites.length v0 v1 v2 R V B∧Least c R)∧(¬ GoodP c→v0 = .slice none 0 0∧v1 = .slice none 0 0∧v2 = .slice none 0 0)
theorem SolAt.kept {c : Cd} {v0 v1 v2 : Value} {w w' : World} (h : SolAt c v0 v1 v2 w) (k : Below w.heap.size w w') : SolAt c v0 v1 v2 w' :=
 ⟨fun g=>by
  obtain ⟨b,t,R,V,B,h1,h2⟩:=h.1 g
  exact ⟨b,t,R,V,B,h1.kept k,h2⟩,h.2⟩
theorem solve_at {c : Cd} {w : World} {f : FuncId} {args : Array Value} (h : Calls Tryd.prog f args w (SolveP c w)) : Calls Tryd.prog f args w fun e w'=>∃ v0 v1 v2,e = .returned (.agg #[v0,v1,v2])∧SolAt c v0 v1 v2 w'∧Below w.heap.size w w':=by
 refine h.mono ?_
 rintro e w' ⟨v0,v1,v2,h1,h2,h3,h4⟩
 refine ⟨v0,v1,v2,h1,⟨fun g=>?_,h4⟩,h2⟩
 obtain ⟨R,V,B,k1,k2⟩:=h3 g
 exact ⟨_,_,R,V,B,k1,k2⟩
/-- No sets at all. -/
theorem sets_nil (w : World) : SetsM w 0 0 0 0 (.slice none 0 0) (.slice none 0 0) (.slice none 0 0) [[]] (fun _=>.slice none 0 0) (fun _=>0) :=
 ⟨rfl,fun r l h=>by
  have : l = []:=by
   cases r with
   | zero=>simpa using h.symm
   | succ n=>simp at h
  subst this
  exact ⟨none,0,rfl,fun q=>absurd rfl q⟩,rfl,⟨none,0,rfl,fun i hi=>by omega⟩,⟨none,0,rfl,fun i hi=>by omega⟩,fun r r' h=>by
  cases r with
  | zero=>exact absurd rfl h
  | succ n=>exact absurd (by simp [List.getD]) h,fun r h=>by
  cases r with
  | zero=>exact absurd rfl h
  | succ n=>exact absurd (by simp [List.getD]) h⟩
theorem sms_nil : SmS 0 0 [[]]:=⟨by decide,by decide,fun r=>by
 cases r with
 | zero=>exact Nat.zero_le _
 | succ n=>simp [List.getD]⟩
theorem allU_nil : AllU [[]]:=fun r j=>by
 have : gR [[]] r j = 0:=by
  cases r with
  | zero=>simp [gR,List.getD]
  | succ n=>simp [gR,List.getD]
 rw [this];decide
theorem same_sol {c : Cd} {v0 v1 v2 u0 u1 u2 : Value} {w : World} (h : SolAt c v0 v1 v2 w) (k : SolAt c u0 u1 u2 w) : Calls Tryd.prog 10 #[.agg #[v0,v1,v2],.agg #[u0,u1,u2]] w fun e w'=>e = .returned (.bool true)∧Below w.heap.size w w':=by
 by_cases g : GoodP c
 ·obtain ⟨b,t,R,V,B,h1,h2⟩:=h.1 g
  obtain ⟨b',t',R',V',B',k1,k2⟩:=k.1 g
  obtain rfl:=h2.one k2
  have:=same_any h1 (sms_good g h2.1.1) (h2.1.allU g) k1 (sms_good g h2.1.1) (h2.1.allU g)
  simpa using this
 ·obtain ⟨rfl,rfl,rfl⟩:=h.2 g
  obtain ⟨rfl,rfl,rfl⟩:=k.2 g
  have:=same_any (sets_nil w) sms_nil allU_nil (sets_nil w) sms_nil allU_nil
  simpa using this
end Go.Proofs.YtkdpcaoocmbbhaaDoor
