/- Round: the contract. -/
import Derived.Test.YtkdpcaoocmbbhaaDoorRi
import Derived.Test.YtkdpcaoocmbbhaaDoorM13
namespace Go.Proofs.YtkdpcaoocmbbhaaDoor
open Go.ChangeShapes Go.WideShapes Go.ChangeAt Go.RowKit Go.Deep
set_option linter.unusedVariables false
set_option linter.unusedSimpArgs false

def RoundP (c : Cd) (R : List (List Nat)) (W : World) (e : Ending) (W' : World) : Prop :=
 ∃ u0 u1 u2 R2 V2 B2,e = .returned (.agg #[u0,u1,u2])∧SetsM W' W.heap.size W'.heap.size c.threads.length c.sites.length u0 u1 u2 R2 V2 B2∧Mdw c R R2∧(R2 = R→Closed c R)∧Below W.heap.size W W'
theorem rnd_begin {W y z : World} {c : Cd} {v0 v1 v2 u0 u1 u2 : Value} {V1 : Nat→Value} {B1 : Nat→Nat} (hk : Below (((W.alloc (.cells #[c.rv,c.gv,c.tv,c.ev,c.cv] 28)).alloc (.cells #[v0,v1,v2] 35)).alloc (.cells #[.slice none 0 0,.slice none 0 0,.slice none 0 0] 35)).heap.size (((W.alloc (.cells #[c.rv,c.gv,c.tv,c.ev,c.cv] 28)).alloc (.cells #[v0,v1,v2] 35)).alloc (.cells #[.slice none 0 0,.slice none 0 0,.slice none 0 0] 35)) y)
  (hs : SetsM y (((W.alloc (.cells #[c.rv,c.gv,c.tv,c.ev,c.cv] 28)).alloc (.cells #[v0,v1,v2] 35)).alloc (.cells #[.slice none 0 0,.slice none 0 0,.slice none 0 0] 35)).heap.size y.heap.size c.threads.length c.sites.length u0 u1 u2 (zeroR c) V1 B1)
  (hv : VarAt z y.heap.size [u0,u1,u2] 35) (ht : Turned y.heap.size (y.alloc (.cells #[.slice none 0 0,.slice none 0 0,.slice none 0 0] 35)) z) : ∃ base,Rnd W y.heap.size base y.heap.size c v0 v1 v2 u0 u1 u2 (zeroR c) V1 B1 z:=by
 have hsz : (((W.alloc (.cells #[c.rv,c.gv,c.tv,c.ev,c.cv] 28)).alloc (.cells #[v0,v1,v2] 35)).alloc (.cells #[.slice none 0 0,.slice none 0 0,.slice none 0 0] 35)).heap.size = W.heap.size + 3:=by simp
 have hy:=hk.size
 rw [hsz] at hy
 have ba:=(Below.refl y.heap.size y).alloc (Nat.le_refl _) (.cells #[.slice none 0 0,.slice none 0 0,.slice none 0 0] 35)
 have b0:=((((VarAt.new W [c.rv,c.gv,c.tv,c.ev,c.cv] 28).past (.cells #[v0,v1,v2] 35)).past (.cells #[.slice none 0 0,.slice none 0 0,.slice none 0 0] 35)).kept hk).kept ba
 have b1:=(((VarAt.new (W.alloc (.cells #[c.rv,c.gv,c.tv,c.ev,c.cv] 28)) [v0,v1,v2] 35).past (.cells #[.slice none 0 0,.slice none 0 0,.slice none 0 0] 35)).kept hk).kept ba
 have b2:=((VarAt.new ((W.alloc (.cells #[c.rv,c.gv,c.tv,c.ev,c.cv] 28)).alloc (.cells #[v0,v1,v2] 35)) [.slice none 0 0,.slice none 0 0,.slice none 0 0] 35).kept hk).kept ba
 simp only [World.size_alloc] at b1 b2
 rw [hsz] at hs
 refine ⟨W.heap.size + 3,⟨ht.var b0 (by omega),ht.var b1 (by omega),ht.var b2 (by omega),hv,(hs.kept ba).touch ht.t1 (fun b h1 h2 e=>by omega),⟨Nat.le_refl _,Nat.le_refl _⟩,?_⟩⟩
 exact ht.below ((below3 W _ _ _).trans ((hk.trans (ba.mono hk.size)).mono (by rw [hsz];omega))) (by omega)

set_option maxRecDepth 1000000 in
set_option maxHeartbeats 4000000 in
theorem round_any {W : World} {base0 top0 : Nat} {c : Cd} {v0 v1 v2 : Value} {R : List (List Nat)} {V : Nat→Value} {B : Nat→Nat} (hc : c.okW W) (g : GoodP c) (hs : SetsM W base0 top0 c.threads.length c.sites.length v0 v1 v2 R V B) (hL : Low c R) :
  Calls Tryd.prog 14 #[.agg c.cells.toArray,.agg #[v0,v1,v2]] W (RoundP c R W):=by
 have CE:=hid (fun Y (hY : Below W.heap.size W Y)=>empty2_any c Y (Cd.kept hc hY) g)
 simp only [Cd.cells] at CE ⊢
 have HC:=hid hc
 have HG:=hid g
 have HS:=hid hs
 have HL:=hid hL
 have BX:=hid (below3 W (.cells #[c.rv,c.gv,c.tv,c.ev,c.cv] 28) (.cells #[v0,v1,v2] 35) (.cells #[.slice none 0 0,.slice none 0 0,.slice none 0 0] 35))
 have Y0:=((VarAt.new W [c.rv,c.gv,c.tv,c.ev,c.cv] 28).past (.cells #[v0,v1,v2] 35)).past (.cells #[.slice none 0 0,.slice none 0 0,.slice none 0 0] 35)
 obtain ⟨y0,y1,y2,y3,y4⟩:=cells5 Y0
 clear hc g hs hL Y0
 go_enter Tryd.func14,Tryd.ntmps14
 refine wp_seq_k (fun K hK=>?_)
 replace hK:=hid hK
 go_wp2_with fail
 refine hK.out _ _ ?_
 clear hK K
 refine wp_seq_k (fun K hK=>?_)
 replace hK:=hid hK
 go_wp2_with (first
  | (go_at_call 24;refine Calls.mono (CE.out _ BX.out) ?_;rintro _ y ⟨u0,u1,u2,V1,B1,rfl,sm,hk⟩;have SM:=hid sm;have HK:=hid hk;have VS:=hid (VarAt.new y [.slice none 0 0,.slice none 0 0,.slice none 0 0] 35);obtain ⟨s0,n0,q0,s1,n1,q1,s2,n2,q2,rfl,rfl,rfl⟩:=sm.ones;clear sm hk CE y0 y1 y2 y3 y4)
  | (refine wl_store_box 35 _ _ rfl rfl _ rfl [.slice s0 n0 q0,.slice s1 n1 q1,.slice s2 n2 q2] rfl size35 (ones3 rfl rfl rfl) _ _ VS.out rfl rfl ?_;intro z hv ht))
 try simp only [Act.put]
 refine hK.out _ _ ?_
 clear hK K
 have ex:=rnd_begin HK.out SM.out hv ht
 obtain ⟨base,rd⟩:=ex
 have RD:=hid rd
 clear HK SM VS hv ht rd BX
 generalize y.heap.size = sb at *
 generalize hu0 : Value.slice s0 n0 q0 = u0 at *
 generalize hu1 : Value.slice s1 n1 q1 = u1 at *
 generalize hu2 : Value.slice s2 n2 q2 = u2 at *
 have RS:=hid (fun r=>Nat.le_trans (row_small HG.out HL.out.1 r) (by omega : 64≤1000))
 have CZ : Cpy R (zeroR c) (fun _ _=>False):=⟨(shp_zero c).trans HL.out.1.symm,fun _ _ h=>h.elim⟩
 refine wp_seq_k (fun K hK=>?_)
 replace hK:=hid hK
 refine copyG HS.out (RS.out _) RD.out CZ (fun _ _ i _ _ h=>by cases i <;> exact h) ?_
 intro _ _ _ _ _ _ _ _ _ _ _ _ _ _ _ _ _ R1 X1 rd cy
 replace RD:=hid rd
 clear rd CZ
 refine hK.out _ _ ?_
 clear hK K
 refine wp_seq_k (fun K hK=>?_)
 replace hK:=hid hK
 refine copyT HS.out RS.out (by have:=HG.out.l3;omega) RD.out cy (fun _ _ i _ _ h=>by cases i <;> exact h) ?_
 clear cy
 intro _ _ _ _ _ _ _ _ _ _ _ _ _ _ _ _ _ _ _ _ _ _ _ _ _ _ _ _ _ _ _ _ _ _ R2 X2 rd cy
 replace RD:=hid rd
 clear rd
 refine hK.out _ _ ?_
 clear hK K
 refine wp_seq_k (fun K hK=>?_)
 replace hK:=hid hK
 refine copyS HS.out RS.out (by have:=HG.out.l4;omega) RD.out cy (fun _ _ i _ _ h=>by cases i <;> exact h) ?_
 intro _ _ _ _ _ _ _ _ _ _ _ _ _ _ _ _ _ _ _ _ _ _ _ _ _ _ _ _ _ _ _ _ _ _ R3 X3 rd cy3
 have e3 : R3 = R:=cy3.all (fun r j hj=>by
  by_cases q : r < c.threads.length + 1 + c.sites.length
  ·exact q
  ·rw [row_len,HL.out.1] at hj
   simp only [List.getD] at hj
   rw [List.getElem?_eq_none (by rw [shape_len];omega)] at hj
   exact absurd hj (Nat.not_lt_zero _))
 subst e3
 replace RD:=hid rd
 clear rd cy cy3
 refine hK.out _ _ ?_
 clear hK K
 refine wp_seq_k (fun K hK=>?_)
 replace hK:=hid hK
 have RX:=hid (RI.start HL.out)
 obtain ⟨ta,tp,te,htr⟩:=RowOf.at HC.out.2.2.1
 have HTR:=hid htr
 have TE:=hid te
 have d2:=RD.out.b0.cell 2 rfl
 rw [te] at d2
 clear htr te RS
 subst hu0;subst hu1;subst hu2
 go_wp2_with fail
 go_loopw [102] (fun t wr=>∃ (i : Nat) (R1 : List (List Nat)),t = .int .i64 i∧i≤c.threads.length∧Hid (Rnd W sb base sb c v0 v1 v2 (.slice s0 n0 q0) (.slice s1 n1 q1) (.slice s2 n2 q2) R1 V1 B1 wr)∧Hid (RI c R3 i 0 R1)) (fun t _=>c.threads.length - (intOf t).toNat)
 case atStart=>exact ⟨0,R3,rfl,by omega,RD,RX⟩
 case round =>
  clear d2 RD RX
  obtain ⟨i,R1,rfl,hi,RD,RX⟩:=hrel
  obtain ⟨wo,rfl⟩ : ∃ wo : World,wo = wr:=⟨wr,rfl⟩
  by_cases hin : i < c.threads.length
  ·obtain ⟨b,tb,toff,hb,rfl,tlt,tra,tok⟩:=HTR.out i hin
   obtain ⟨asl,ps,es⟩:=tok.2.1.form
   obtain ⟨ac,pc,ec,hcr⟩:=RowOf.at tok.2.2
   have c0 : W.cell? ⟨tb,toff + i * 3,none⟩ = some b.sv:=tra 0 _ rfl
   have c1 : W.cell? ⟨tb,toff + i * 3 + 1,none⟩ = some b.cv:=tra 1 _ rfl
   have c2 : W.cell? ⟨tb,toff + i * 3 + 2,none⟩ = some (.int .i64 b.most):=tra 2 _ rfl
   rw [es] at c0
   rw [ec] at c1
   rw [← RD.out.bel.cell tlt] at c0 c1 c2
   have hiI : (i : Int) < (c.threads.length : Int):=by omega
   have hnK:=(HG.out.ths i b hb).2.2.2.2.1
   have hnT:=HG.out.l3
   replace hb:=hid hb
   replace hcr:=hid hcr
   have BK:=(Below.refl wo.heap.size wo).alloc (Nat.le_refl _) (.cells #[.slice asl b.slots.length ps,.slice ac b.code.length pc,.int .i64 b.most] 40)
   replace RD:=hid (RD.out.kept BK)
   have VB:=hid (VarAt.new wo [.slice asl b.slots.length ps,.slice ac b.code.length pc,.int .i64 b.most] 40)
   generalize hK' : b.code.length = nK at *
   replace hK':=hid hK'
   clear tra tok es ec BK
   go_wp2_with fail
   go_loopw [110] (fun t wr=>∃ (j : Nat) (R1 : List (List Nat)),t = .int .i64 j∧j≤nK∧Hid (Rnd W sb base sb c v0 v1 v2 (.slice s0 n0 q0) (.slice s1 n1 q1) (.slice s2 n2 q2) R1 V1 B1 wr)∧Hid (RI c R3 i j R1)) (fun t _=>nK - (intOf t).toNat)
   case atStart=>exact ⟨0,R1,rfl,by omega,RD,RX⟩
   case round =>
    clear RD RX VB c0 c1 c2
    obtain ⟨j,R4,rfl,hj,RD,RX⟩:=hrel
    by_cases hjn : j < nK
    ·obtain ⟨x,xb,xoff,hx,rfl,xlt,xra,xok⟩:=hcr.out j hjn
     have x0 : W.cell? ⟨xb,xoff + j * 8,none⟩ = some (.int .i64 x.op):=xra 0 _ rfl
     have x1 : W.cell? ⟨xb,xoff + j * 8 + 1,none⟩ = some (.int .i64 x.dst):=xra 1 _ rfl
     have x2 : W.cell? ⟨xb,xoff + j * 8 + 2,none⟩ = some (.int .i64 x.src):=xra 2 _ rfl
     have x3 : W.cell? ⟨xb,xoff + j * 8 + 3,none⟩ = some (.int .i64 x.rc):=xra 3 _ rfl
     have x4 : W.cell? ⟨xb,xoff + j * 8 + 4,none⟩ = some (.int .i64 x.n):=xra 4 _ rfl
     have x5 : W.cell? ⟨xb,xoff + j * 8 + 5,none⟩ = some (.int .i64 x.to):=xra 5 _ rfl
     have x6 : W.cell? ⟨xb,xoff + j * 8 + 6,none⟩ = some x.iv:=xra 6 _ rfl
     have x7 : W.cell? ⟨xb,xoff + j * 8 + 7,none⟩ = some x.xv:=xra 7 _ rfl
     rw [← RD.out.bel.cell xlt] at x0 x1 x2 x3 x4 x5 x6 x7
     obtain ⟨ai,pi,ei⟩:=xok.2.1.form
     obtain ⟨ax,px,ex⟩:=xok.2.2.form
     rw [ei] at x6
     rw [ex] at x7
     have VI:=hid (VarAt.new wr [.int .i64 x.op,.int .i64 x.dst,.int .i64 x.src,.int .i64 x.rc,.int .i64 x.n,.int .i64 x.to,.slice ai x.items.length pi,.slice ax x.index.length px] 50)
     have ib:=hid RD.out.bo.lt
     have BK:=(Below.refl wr.heap.size wr).alloc (Nat.le_refl _) (.cells #[.int .i64 x.op,.int .i64 x.dst,.int .i64 x.src,.int .i64 x.rc,.int .i64 x.n,.int .i64 x.to,.slice ai x.items.length pi,.slice ax x.index.length px] 50)
     replace RD:=hid (RD.out.kept BK)
     have hjI : (j : Int) < (nK : Int):=by omega
     replace VI : Hid (VarAt _ wr.heap.size x.cells 50):=hid (by rw [xcells,ei,ex];exact VI.out)
     have hx':=hid hx
     clear xra xok BK ei ex hx
     go_upto_region 30 with fail
     rename_i K2 hK2
     replace hK2:=hid hK2
     go_wp2_with fail
     refine hK2.out _ _ ?_
     clear hK2 K2 x0 x1 x2 x3 x4 x5 x6 x7
     refine wp_seq_k (fun K2 hK2=>?_)
     replace hK2:=hid hK2
     refine pieceD HC.out HG.out HS.out HL.out (RX.out.mid.low HL.out) hb.out hx'.out RD.out VI.out ib.out (fun _ _ i _ _ h=>by cases i <;> exact h) ?_
     intro _ _ _ _ _ _ _ _ _ _ _ _ _ _ _ _ _ _ _ _ _ _ _ _ _ _ _ X4 rd vi
     replace RD:=hid rd
     replace VI:=hid vi
     clear rd vi
     refine hK2.out _ _ ?_
     clear hK2 K2
     refine wp_seq_k (fun K2 hK2=>?_)
     replace hK2:=hid hK2
     refine pieceG HC.out HG.out HS.out HL.out ((RX.out.mid.stD HG.out hb.out hx'.out).low HL.out) hb.out hx'.out RD.out VI.out ib.out (fun _ _ i _ _ h=>by cases i <;> exact h) ?_
     intro _ _ _ _ _ _ _ _ _ _ _ _ _ _ _ _ _ _ _ _ _ _ _ _ _ _ _ _ _ X5 rd vi
     replace RD:=hid rd
     replace VI:=hid vi
     clear rd vi
     refine hK2.out _ _ ?_
     clear hK2 K2
     refine pieceF HC.out HG.out HS.out HL.out (((RX.out.mid.stD HG.out hb.out hx'.out).stG HG.out hb.out hx'.out).low HL.out) hb.out hx'.out RD.out VI.out ib.out (fun _ _ i _ _ h=>by cases i <;> exact h) ?_
     intro _ _ _ _ _ _ _ _ _ _ _ _ _ _ _ _ _ _ _ _ _ _ _ _ _ _ _ _ _ _ _ _ _ _ _ _ _ _ _ _ _ _ _ _ _ _ _ _ _ _ _ _ _ _ _ _ _ _ _ _ _ _ _ _ _ _ _ _ X6 rd vi
     replace RD:=hid rd
     have RN:=hid (RX.out.step HG.out HL.out hb.out hx'.out)
     clear rd vi VI RX
     go_wp2_with fail
     go_roundw
     case rel=>exact ⟨j + 1,_,by go_num,by omega,RD,RN⟩
     case measure=>simp [intOf];omega
    ·have e : j = nK:=by omega
     subst e
     have RN:=hid (RI.turn (b:=b) (by rw [hK'.out];exact RX.out) hb.out)
     clear RX
     go_wp2_with fail
     go_roundw
     case rel=>exact ⟨i + 1,_,by go_num,by omega,RD,RN⟩
     case measure=>simp [intOf];omega
  ·have e : i = c.threads.length:=by omega
   subst e
   go_wp2_with fail
   refine hK.out _ _ ?_
   clear hK
   have o0:=RD.out.bo.cell 0 rfl
   have o1:=RD.out.bo.cell 1 rfl
   have o2:=RD.out.bo.cell 2 rfl
   go_wp2_with (refine wl_store_box 35 _ _ rfl rfl (W.heap.size + 2) rfl [.slice s0 n0 q0,.slice s1 n1 q1,.slice s2 n2 q2] rfl size35 (ones3 rfl rfl rfl) _ _ RD.out.b2 rfl rfl ?_;intro w2 hv ht)
   try simp only [Act.put]
   refine bodyPost_ret (results_cell_row rfl _ _ (W.heap.size + 2) _ _ _ _ rfl hv Tryd.underlying35 rfl (by kernel_rfl)) rfl ?_
   have ab:=RD.out.ab
   have lo:=RD.out.bo.lt
   have sz:=ht.size
   exact ⟨_,_,_,R1,V1,B1,rfl,(RD.out.sets.touch ht.t1 (fun b h1 h2 e=>by omega)).wide (by omega) (by omega),RX.out.mid,RX.out.ends,ht.below RD.out.bel (by omega)⟩
end Go.Proofs.YtkdpcaoocmbbhaaDoor
