/- The document's Brings: its walk. -/
import Derived.Test.YtkdpcaoocmbbhaaDoorWt
import Derived.Test.YtkdpcaoocmbbhaaDoorM12
namespace Go.Proofs.YtkdpcaoocmbbhaaDoor
open Go.ChangeShapes Go.WideShapes Go.ChangeAt Go.RowKit Go.Deep
set_option linter.unusedVariables false
set_option linter.unusedSimpArgs false

/-- What lies in the first three boxes. -/
structure BrW (W : World) (l0 l1 l2 : List Value) (Y : World) : Prop where
 b0 : VarAt Y W.heap.size l0 28
 b1 : VarAt Y (W.heap.size + 1) l1 35
 b2 : VarAt Y (W.heap.size + 2) l2 50
 bel : Below W.heap.size W Y
theorem BrW.kept {W Y Y' : World} {l0 l1 l2 : List Value} (h : BrW W l0 l1 l2 Y) (k : Below Y.heap.size Y Y') : BrW W l0 l1 l2 Y' :=
 ⟨h.b0.kept k,h.b1.kept k,h.b2.kept k,h.bel.trans (k.mono h.bel.size)⟩
theorem BrW.start (W : World) (l0 l1 l2 : List Value) : BrW W l0 l1 l2 (((W.alloc (.cells l0.toArray 28)).alloc (.cells l1.toArray 35)).alloc (.cells l2.toArray 50)):=by
 refine ⟨((VarAt.new W l0 28).past _).past _,?_,?_,below3 _ _ _ _⟩
 ·have:=(VarAt.new (W.alloc (.cells l0.toArray 28)) l1 35).past (.cells l2.toArray 50)
  simpa using this
 ·have:=VarAt.new ((W.alloc (.cells l0.toArray 28)).alloc (.cells l1.toArray 35)) l2 50
  simpa using this

set_option maxRecDepth 100000 in
set_option maxHeartbeats 2000000 in
theorem br1 {c : Cd} {W : World} {base top : Nat} {v0 v1 v2 : Value} {R : List (List Nat)} {V : Nat→Value} {B : Nat→Nat} (hc : c.okW W) (g : GoodP c) (h : SetsM W base top c.threads.length c.sites.length v0 v1 v2 R V B) (hL : Low c R) {i k : Nat} {b : Bd} {x : Ins} (hb : c.threads[i]? = some b) (hx : b.code[k]? = some x) (hd : dstB b x = true) (hop : x.op = 1) :
  Calls Tryd.prog 29 #[.agg c.cells.toArray,.agg #[v0,v1,v2],.int .i64 (i : Int),.agg x.cells.toArray] W fun e W'=>e = .returned (.int .u64 ((brM c R i x : Nat) : Int))∧Below W.heap.size W W':=by
 obtain ⟨ho,hm,hD⟩:=dst_cases g hb hx hd
 have F:=ins_facts g hb hx
 have hi:=(List.getElem?_eq_some_iff.1 hb).1
 have IP:=items_pre hc g hL hb hx
 have IK:=ins_okw hc hb hx
 have hU:=hL.allU g
 have hS:=g.l4
 obtain ⟨a0,p0,a1,p1,a2,p2,a3,p3,a4,p4,e0,e1,e2,e3,e4⟩:=cd_open hc
 obtain ⟨ia,ip,ei⟩:=IK.2.1.form
 obtain ⟨xa,xp,ex⟩:=IK.2.2.form
 obtain ⟨s1,q1,fq1⟩:=h.form (r:=c.threads.length) (by rw [h.len];omega)
 have f1:=h.one.trans fq1
 obtain ⟨oa,oc,f0,ho0⟩:=h.o0
 obtain ⟨ob,ooff,e1',o2,o3,o4,o5,o6⟩:=ho0 i hi
 subst e1'
 obtain ⟨s2,q2,f2,ho2⟩:=h.o2
 have EC : c.cells = [.slice a0 c.recs.length p0,.slice a1 c.globs.length p1,.slice a2 c.threads.length p2,.slice a3 c.sites.length p3,.slice a4 c.secs.length p4]:=by unfold Cd.cells;rw [e0,e1,e2,e3,e4]
 have DL:=hid (fun hq : hasD x.op = true=>row_at hL i)
 obtain ⟨op,dst,src,rc,n,tt,items,iv,index,xv⟩:=x
 simp only at hop ei ex
 subst hop;subst ei;subst ex
 have CI:=hid (fun Y (hY : Below W.heap.size W Y)=>items_any (h.kept hY) hU i hi (.slice ia items.length ip) items (Ins.kept IK hY).2.1 IP.1 IP.2)
 have hB : brM c R i ⟨1,dst,src,rc,n,tt,items,.slice ia items.length ip,index,.slice xa index.length xp⟩ = meant R i (usesN items):=by unfold brM;rw [if_pos rfl]
 rw [hB,EC]
 rw [f0,f1,f2] at CI ⊢
 simp only [Ins.cells]
 have BW:=hid (BrW.start W [.slice a0 c.recs.length p0,.slice a1 c.globs.length p1,.slice a2 c.threads.length p2,.slice a3 c.sites.length p3,.slice a4 c.secs.length p4] [.slice (some ⟨ob,ooff,none⟩) c.threads.length oc,.slice s1 (R.getD c.threads.length []).length q1,.slice s2 c.sites.length q2] [.int .i64 1,.int .i64 dst,.int .i64 src,.int .i64 rc,.int .i64 n,.int .i64 tt,.slice ia items.length ip,.slice xa index.length xp])
 have hii : (i : Int) < (c.threads.length : Int):=by omega
 clear ho hm hD F IP IK hU hS e0 e1 e2 e3 e4 h hc g hL hb hx hd ho0 ho2 f0 f1 f2 fq1 hi o2 o3 o5 EC DL
 clear hB o4 o6
 have d0:=BW.out.b2.cell 0 rfl
 have d6:=BW.out.b2.cell 6 rfl
 have t0:=BW.out.b1.cell 0 rfl
 have t1:=BW.out.b1.cell 1 rfl
 have t2:=BW.out.b1.cell 2 rfl
 go_enter Tryd.func29,Tryd.ntmps29
 go_wp2_with (go_at_call 31;refine Calls.mono (CI.out _ BW.out.bel) ?_;rintro _ W' ⟨rfl,hk⟩;have BY:=hid (BW.out.kept hk);clear hk)
 go_ret
 exact ⟨rfl,BY.out.bel⟩

set_option maxRecDepth 100000 in
set_option maxHeartbeats 2000000 in
theorem br2 {c : Cd} {W : World} {base top : Nat} {v0 v1 v2 : Value} {R : List (List Nat)} {V : Nat→Value} {B : Nat→Nat} (hc : c.okW W) (g : GoodP c) (h : SetsM W base top c.threads.length c.sites.length v0 v1 v2 R V B) (hL : Low c R) {i k : Nat} {b : Bd} {x : Ins} (hb : c.threads[i]? = some b) (hx : b.code[k]? = some x) (hd : dstB b x = true) (hop : x.op = 2) :
  Calls Tryd.prog 29 #[.agg c.cells.toArray,.agg #[v0,v1,v2],.int .i64 (i : Int),.agg x.cells.toArray] W fun e W'=>e = .returned (.int .u64 ((brM c R i x : Nat) : Int))∧Below W.heap.size W W':=by
 obtain ⟨ho,hm,hD⟩:=dst_cases g hb hx hd
 have F:=ins_facts g hb hx
 have hi:=(List.getElem?_eq_some_iff.1 hb).1
 have IP:=items_pre hc g hL hb hx
 have IK:=ins_okw hc hb hx
 have hU:=hL.allU g
 have hS:=g.l4
 obtain ⟨a0,p0,a1,p1,a2,p2,a3,p3,a4,p4,e0,e1,e2,e3,e4⟩:=cd_open hc
 obtain ⟨ia,ip,ei⟩:=IK.2.1.form
 obtain ⟨xa,xp,ex⟩:=IK.2.2.form
 obtain ⟨s1,q1,fq1⟩:=h.form (r:=c.threads.length) (by rw [h.len];omega)
 have f1:=h.one.trans fq1
 obtain ⟨oa,oc,f0,ho0⟩:=h.o0
 obtain ⟨ob,ooff,e1',o2,o3,o4,o5,o6⟩:=ho0 i hi
 subst e1'
 obtain ⟨s2,q2,f2,ho2⟩:=h.o2
 have EC : c.cells = [.slice a0 c.recs.length p0,.slice a1 c.globs.length p1,.slice a2 c.threads.length p2,.slice a3 c.sites.length p3,.slice a4 c.secs.length p4]:=by unfold Cd.cells;rw [e0,e1,e2,e3,e4]
 have DL:=hid (fun hq : hasD x.op = true=>row_at hL i)
 obtain ⟨op,dst,src,rc,n,tt,items,iv,index,xv⟩:=x
 simp only at hop ei ex
 subst hop;subst ei;subst ex
 obtain ⟨m,hn,hgl⟩:=F.g (.inl rfl)
 have hgl' : m < (R.getD c.threads.length []).length:=by rw [row_at hL,shape_globs];exact hgl
 obtain ⟨cc,w1,w2,-,-,w5⟩:=h.at (r:=c.threads.length) (j:=m) hgl'
 rw [fq1] at w1
 obtain ⟨rfl,-,rfl⟩:=Value.slice.inj w1
 simp only at hn
 subst hn
 have hB : brM c R i ⟨2,dst,src,rc,(m : Int),tt,items,.slice ia items.length ip,index,.slice xa index.length xp⟩ = gR R c.threads.length m:=by show (if (2 : Int) = 1 then _ else if (2 : Int) = 2 then _ else _) = _;rw [if_neg (by decide),if_pos rfl,Int.toNat_natCast]
 rw [hB,EC]
 rw [f0,f1,f2]
 simp only [Ins.cells]
 have BW:=hid (BrW.start W [.slice a0 c.recs.length p0,.slice a1 c.globs.length p1,.slice a2 c.threads.length p2,.slice a3 c.sites.length p3,.slice a4 c.secs.length p4] [.slice (some ⟨ob,ooff,none⟩) c.threads.length oc,.slice (some ⟨B c.threads.length,0,none⟩) (R.getD c.threads.length []).length q1,.slice s2 c.sites.length q2] [.int .i64 2,.int .i64 dst,.int .i64 src,.int .i64 rc,.int .i64 (m : Int),.int .i64 tt,.slice ia items.length ip,.slice xa index.length xp])
 have hii : (i : Int) < (c.threads.length : Int):=by omega
 clear ho hm hD F IP IK hU hS e0 e1 e2 e3 e4 h hc g hL hb hx hd ho0 ho2 f0 f1 f2 fq1 hi o2 o3 o5 EC DL
 clear hB o4 o6
 have d0:=BW.out.b2.cell 0 rfl
 have d4:=BW.out.b2.cell 4 rfl
 have t1:=BW.out.b1.cell 1 rfl
 have y5:=(BW.out.bel.cell (p:=⟨B c.threads.length,m,none⟩) w2.lt).trans w5
 have hgi : (m : Int) < ((R.getD c.threads.length []).length : Int):=by omega
 clear w2 w5
 generalize (R.getD c.threads.length []).length = rl at *
 generalize gR R c.threads.length m = zz at *
 go_enter Tryd.func29,Tryd.ntmps29
 go_wp2
 go_ret
 exact ⟨rfl,BW.out.bel⟩

set_option maxRecDepth 100000 in
set_option maxHeartbeats 2000000 in
theorem br8 {c : Cd} {W : World} {base top : Nat} {v0 v1 v2 : Value} {R : List (List Nat)} {V : Nat→Value} {B : Nat→Nat} (hc : c.okW W) (g : GoodP c) (h : SetsM W base top c.threads.length c.sites.length v0 v1 v2 R V B) (hL : Low c R) {i k : Nat} {b : Bd} {x : Ins} (hb : c.threads[i]? = some b) (hx : b.code[k]? = some x) (hd : dstB b x = true) (hop : x.op = 8) :
  Calls Tryd.prog 29 #[.agg c.cells.toArray,.agg #[v0,v1,v2],.int .i64 (i : Int),.agg x.cells.toArray] W fun e W'=>e = .returned (.int .u64 ((brM c R i x : Nat) : Int))∧Below W.heap.size W W':=by
 obtain ⟨ho,hm,hD⟩:=dst_cases g hb hx hd
 have F:=ins_facts g hb hx
 have hi:=(List.getElem?_eq_some_iff.1 hb).1
 have IP:=items_pre hc g hL hb hx
 have IK:=ins_okw hc hb hx
 have hU:=hL.allU g
 have hS:=g.l4
 obtain ⟨a0,p0,a1,p1,a2,p2,a3,p3,a4,p4,e0,e1,e2,e3,e4⟩:=cd_open hc
 obtain ⟨ia,ip,ei⟩:=IK.2.1.form
 obtain ⟨xa,xp,ex⟩:=IK.2.2.form
 obtain ⟨s1,q1,fq1⟩:=h.form (r:=c.threads.length) (by rw [h.len];omega)
 have f1:=h.one.trans fq1
 obtain ⟨oa,oc,f0,ho0⟩:=h.o0
 obtain ⟨ob,ooff,e1',o2,o3,o4,o5,o6⟩:=ho0 i hi
 subst e1'
 obtain ⟨s2,q2,f2,ho2⟩:=h.o2
 have EC : c.cells = [.slice a0 c.recs.length p0,.slice a1 c.globs.length p1,.slice a2 c.threads.length p2,.slice a3 c.sites.length p3,.slice a4 c.secs.length p4]:=by unfold Cd.cells;rw [e0,e1,e2,e3,e4]
 have DL:=hid (fun hq : hasD x.op = true=>row_at hL i)
 obtain ⟨op,dst,src,rc,n,tt,items,iv,index,xv⟩:=x
 simp only at hop ei ex
 subst hop;subst ei;subst ex
 obtain ⟨m,hn,hgl⟩:=F.m (.inl rfl)
 simp only at hn
 subst hn
 have hB : brM c R i ⟨8,dst,src,rc,(m : Int),tt,items,.slice ia items.length ip,index,.slice xa index.length xp⟩ = 2 ^ m:=by show (if (8 : Int) = 1 then _ else if (8 : Int) = 2 then _ else if (8 : Int) = 3 then _ else _) = _;rw [if_neg (by decide),if_neg (by decide),if_neg (by decide),Int.toNat_natCast]
 have hm64 : m < 64:=by omega
 have he:=shl_eq m hm64
 rw [hB,EC]
 rw [f0,f1,f2]
 simp only [Ins.cells]
 have BW:=hid (BrW.start W [.slice a0 c.recs.length p0,.slice a1 c.globs.length p1,.slice a2 c.threads.length p2,.slice a3 c.sites.length p3,.slice a4 c.secs.length p4] [.slice (some ⟨ob,ooff,none⟩) c.threads.length oc,.slice s1 (R.getD c.threads.length []).length q1,.slice s2 c.sites.length q2] [.int .i64 8,.int .i64 dst,.int .i64 src,.int .i64 rc,.int .i64 (m : Int),.int .i64 tt,.slice ia items.length ip,.slice xa index.length xp])
 have hii : (i : Int) < (c.threads.length : Int):=by omega
 clear ho hm hD F IP IK hU hS e0 e1 e2 e3 e4 h hc g hL hb hx hd ho0 ho2 f0 f1 f2 fq1 hi o2 o3 o5 EC DL
 clear hB o4 o6
 have d0:=BW.out.b2.cell 0 rfl
 have d4:=BW.out.b2.cell 4 rfl
 go_enter Tryd.func29,Tryd.ntmps29
 rw [he]
 go_wp2
 go_ret
 exact ⟨rfl,BW.out.bel⟩

set_option maxRecDepth 100000 in
set_option maxHeartbeats 2000000 in
theorem br9 {c : Cd} {W : World} {base top : Nat} {v0 v1 v2 : Value} {R : List (List Nat)} {V : Nat→Value} {B : Nat→Nat} (hc : c.okW W) (g : GoodP c) (h : SetsM W base top c.threads.length c.sites.length v0 v1 v2 R V B) (hL : Low c R) {i k : Nat} {b : Bd} {x : Ins} (hb : c.threads[i]? = some b) (hx : b.code[k]? = some x) (hd : dstB b x = true) (hop : x.op = 9) :
  Calls Tryd.prog 29 #[.agg c.cells.toArray,.agg #[v0,v1,v2],.int .i64 (i : Int),.agg x.cells.toArray] W fun e W'=>e = .returned (.int .u64 ((brM c R i x : Nat) : Int))∧Below W.heap.size W W':=by
 obtain ⟨ho,hm,hD⟩:=dst_cases g hb hx hd
 have F:=ins_facts g hb hx
 have hi:=(List.getElem?_eq_some_iff.1 hb).1
 have IP:=items_pre hc g hL hb hx
 have IK:=ins_okw hc hb hx
 have hU:=hL.allU g
 have hS:=g.l4
 obtain ⟨a0,p0,a1,p1,a2,p2,a3,p3,a4,p4,e0,e1,e2,e3,e4⟩:=cd_open hc
 obtain ⟨ia,ip,ei⟩:=IK.2.1.form
 obtain ⟨xa,xp,ex⟩:=IK.2.2.form
 obtain ⟨s1,q1,fq1⟩:=h.form (r:=c.threads.length) (by rw [h.len];omega)
 have f1:=h.one.trans fq1
 obtain ⟨oa,oc,f0,ho0⟩:=h.o0
 obtain ⟨ob,ooff,e1',o2,o3,o4,o5,o6⟩:=ho0 i hi
 subst e1'
 obtain ⟨s2,q2,f2,ho2⟩:=h.o2
 have EC : c.cells = [.slice a0 c.recs.length p0,.slice a1 c.globs.length p1,.slice a2 c.threads.length p2,.slice a3 c.sites.length p3,.slice a4 c.secs.length p4]:=by unfold Cd.cells;rw [e0,e1,e2,e3,e4]
 have DL:=hid (fun hq : hasD x.op = true=>row_at hL i)
 obtain ⟨op,dst,src,rc,n,tt,items,iv,index,xv⟩:=x
 simp only at hop ei ex
 subst hop;subst ei;subst ex
 obtain ⟨m,hn,hgl⟩:=F.m (.inr rfl)
 simp only at hn
 subst hn
 have hB : brM c R i ⟨9,dst,src,rc,(m : Int),tt,items,.slice ia items.length ip,index,.slice xa index.length xp⟩ = 2 ^ m:=by show (if (9 : Int) = 1 then _ else if (9 : Int) = 2 then _ else if (9 : Int) = 3 then _ else _) = _;rw [if_neg (by decide),if_neg (by decide),if_neg (by decide),Int.toNat_natCast]
 have hm64 : m < 64:=by omega
 have he:=shl_eq m hm64
 rw [hB,EC]
 rw [f0,f1,f2]
 simp only [Ins.cells]
 have BW:=hid (BrW.start W [.slice a0 c.recs.length p0,.slice a1 c.globs.length p1,.slice a2 c.threads.length p2,.slice a3 c.sites.length p3,.slice a4 c.secs.length p4] [.slice (some ⟨ob,ooff,none⟩) c.threads.length oc,.slice s1 (R.getD c.threads.length []).length q1,.slice s2 c.sites.length q2] [.int .i64 9,.int .i64 dst,.int .i64 src,.int .i64 rc,.int .i64 (m : Int),.int .i64 tt,.slice ia items.length ip,.slice xa index.length xp])
 have hii : (i : Int) < (c.threads.length : Int):=by omega
 clear ho hm hD F IP IK hU hS e0 e1 e2 e3 e4 h hc g hL hb hx hd ho0 ho2 f0 f1 f2 fq1 hi o2 o3 o5 EC DL
 clear hB o4 o6
 have d0:=BW.out.b2.cell 0 rfl
 have d4:=BW.out.b2.cell 4 rfl
 go_enter Tryd.func29,Tryd.ntmps29
 rw [he]
 go_wp2
 go_ret
 exact ⟨rfl,BW.out.bel⟩

set_option maxRecDepth 100000 in
set_option maxHeartbeats 2000000 in
theorem br3 {c : Cd} {W : World} {base top : Nat} {v0 v1 v2 : Value} {R : List (List Nat)} {V : Nat→Value} {B : Nat→Nat} (hc : c.okW W) (g : GoodP c) (h : SetsM W base top c.threads.length c.sites.length v0 v1 v2 R V B) (hL : Low c R) {i k : Nat} {b : Bd} {x : Ins} (hb : c.threads[i]? = some b) (hx : b.code[k]? = some x) (hd : dstB b x = true) (hop : x.op = 3) :
  Calls Tryd.prog 29 #[.agg c.cells.toArray,.agg #[v0,v1,v2],.int .i64 (i : Int),.agg x.cells.toArray] W fun e W'=>e = .returned (.int .u64 ((brM c R i x : Nat) : Int))∧Below W.heap.size W W':=by
 obtain ⟨ho,hm,hD⟩:=dst_cases g hb hx hd
 have F:=ins_facts g hb hx
 have hi:=(List.getElem?_eq_some_iff.1 hb).1
 have IP:=items_pre hc g hL hb hx
 have IK:=ins_okw hc hb hx
 have hU:=hL.allU g
 have hS:=g.l4
 obtain ⟨a0,p0,a1,p1,a2,p2,a3,p3,a4,p4,e0,e1,e2,e3,e4⟩:=cd_open hc
 obtain ⟨ia,ip,ei⟩:=IK.2.1.form
 obtain ⟨xa,xp,ex⟩:=IK.2.2.form
 obtain ⟨s1,q1,fq1⟩:=h.form (r:=c.threads.length) (by rw [h.len];omega)
 have f1:=h.one.trans fq1
 obtain ⟨oa,oc,f0,ho0⟩:=h.o0
 obtain ⟨ob,ooff,e1',o2,o3,o4,o5,o6⟩:=ho0 i hi
 subst e1'
 obtain ⟨s2,q2,f2,ho2⟩:=h.o2
 have EC : c.cells = [.slice a0 c.recs.length p0,.slice a1 c.globs.length p1,.slice a2 c.threads.length p2,.slice a3 c.sites.length p3,.slice a4 c.secs.length p4]:=by unfold Cd.cells;rw [e0,e1,e2,e3,e4]
 have DL:=hid (fun hq : hasD x.op = true=>row_at hL i)
 obtain ⟨op,dst,src,rc,n,tt,items,iv,index,xv⟩:=x
 simp only at hop ei ex
 subst hop;subst ei;subst ex
 obtain ⟨r0,m,hr0,hrl0,hn,hml⟩:=F.f (.inl rfl)
 obtain ⟨sk,hsk,hsl⟩:=F.s rfl
 simp only at hn hsk
 subst hn;subst hsk
 have hsr : sk < (R.getD i []).length:=by rw [row_at hL,shape_slots c hb];exact hsl
 obtain ⟨cp,w1,w2,-,-,w5⟩:=h.at (r:=i) (j:=sk) hsr
 rw [w1] at o6
 have hB : brM c R i ⟨3,dst,(sk : Int),rc,(m : Int),tt,items,.slice ia items.length ip,index,.slice xa index.length xp⟩ = brL R (c.threads.length + 1) i sk m c.sites.length:=by show (if (3 : Int) = 1 then _ else if (3 : Int) = 2 then _ else if (3 : Int) = 3 then _ else _) = _;rw [if_neg (by decide),if_neg (by decide),if_pos rfl,Int.toNat_natCast,Int.toNat_natCast]
 have HU:=hid (fun k=>brL_lt hU (c.threads.length + 1) i sk m k)
 have HV:=hid (fun k (hk : k < c.sites.length)=>(show ∃ fb foff xr xl xc,s2 = some ⟨fb,foff,none⟩∧fb < W.heap.size∧W.cell? ⟨fb,foff + k,none⟩ = some (.slice xr xl xc)∧xl = (R.getD (c.threads.length + 1 + k) []).length∧(m < xl→xr = some ⟨B (c.threads.length + 1 + k),0,none⟩∧B (c.threads.length + 1 + k) < W.heap.size∧W.cell? ⟨B (c.threads.length + 1 + k),m,none⟩ = some (.int .u64 ((gR R (c.threads.length + 1 + k) m : Nat) : Int))) from by
  obtain ⟨fb,foff,g1,-,-,g4,-,g6⟩:=ho2 k hk
  obtain ⟨xr,xc,gx⟩:=h.form (r:=c.threads.length + 1 + k) (by rw [h.len];omega)
  dsimp only at g6
  rw [gx] at g6
  refine ⟨fb,foff,xr,_,xc,g1,g4,g6,rfl,fun hml=>?_⟩
  obtain ⟨c',u1,u2,-,-,u5⟩:=h.at (r:=c.threads.length + 1 + k) (j:=m) hml
  rw [gx] at u1
  obtain ⟨rfl,-,rfl⟩:=Value.slice.inj u1
  exact ⟨rfl,u2.lt,u5⟩))
 have U2:=hid hU
 have hS64 : c.sites.length≤64:=by omega
 have haa:=hU i sk
 have hri : (sk : Int) < ((R.getD i []).length : Int):=by omega
 rw [hB,EC]
 rw [f0,f1,f2]
 simp only [Ins.cells]
 have BW:=hid (BrW.start W [.slice a0 c.recs.length p0,.slice a1 c.globs.length p1,.slice a2 c.threads.length p2,.slice a3 c.sites.length p3,.slice a4 c.secs.length p4] [.slice (some ⟨ob,ooff,none⟩) c.threads.length oc,.slice s1 (R.getD c.threads.length []).length q1,.slice s2 c.sites.length q2] [.int .i64 3,.int .i64 dst,.int .i64 (sk : Int),.int .i64 rc,.int .i64 (m : Int),.int .i64 tt,.slice ia items.length ip,.slice xa index.length xp])
 have hii : (i : Int) < (c.threads.length : Int):=by omega
 clear ho hm hD F IP IK hU hS e0 e1 e2 e3 e4 h hc g hL hb hx hd ho0 ho2 f0 f1 f2 fq1 hi o2 o3 o5 EC DL
 have hoB:=w2.lt
 clear hB w1 w2 hr0 hrl0 hml hsl hsr
 generalize haq : gR R i sk = aa at *
 generalize (R.getD i []).length = rl at *
 generalize (R.getD c.threads.length []).length = rg at *
 have d0:=BW.out.b2.cell 0 rfl
 have d3:=BW.out.b0.cell 3 rfl
 generalize hnS : c.sites.length = nS at *
 go_enter Tryd.func29,Tryd.ntmps29
 go_wp2_with fail
 replace haq:=hid haq
 go_loopw [9,40] (fun t9 t wr=>∃ (j : Nat),t = .int .i64 j∧j≤nS∧t9 = .int .u64 ((brL R (c.threads.length + 1) i sk m j : Nat) : Int)∧Hid (BrW W [.slice a0 c.recs.length p0,.slice a1 c.globs.length p1,.slice a2 c.threads.length p2,.slice a3 nS p3,.slice a4 c.secs.length p4] [.slice (some ⟨ob,ooff,none⟩) c.threads.length oc,.slice s1 rg q1,.slice s2 nS q2] [.int .i64 3,.int .i64 dst,.int .i64 (sk : Int),.int .i64 rc,.int .i64 (m : Int),.int .i64 tt,.slice ia items.length ip,.slice xa index.length xp] wr)) (fun _ t _=>nS - (intOf t).toNat)
 case atStart=>exact ⟨0,rfl,by omega,rfl,BW⟩
 case round =>
  obtain ⟨j,rfl,hj,rfl,BR⟩:=hrel
  clear BW d0 d3
  by_cases hjn : j < nS
  ·obtain ⟨fb,foff,xr,xl,xc,rfl,hfb,y6,hxl,hin⟩:=HV.out j hjn
   replace hxl:=hid hxl
   have BD:=BR.out.kept (Below.refl _ _).drew
   have t0:=BD.b1.cell 0 (v:=.slice (some ⟨ob,ooff,none⟩) c.threads.length oc) rfl
   have t1:=(BD.bel.cell (p:=⟨ob,ooff + i,none⟩) o4).trans o6
   have d2:=BD.b2.cell 2 (v:=.int .i64 (sk : Int)) rfl
   have t3:=(BD.bel.cell (p:=⟨B i,sk,none⟩) hoB).trans w5
   have d4:=BD.b2.cell 4 (v:=.int .i64 (m : Int)) rfl
   have t5:=BD.b1.cell 2 (v:=.slice (some ⟨fb,foff,none⟩) nS q2) rfl
   have t6:=(BD.bel.cell (p:=⟨fb,foff + j,none⟩) hfb).trans y6
   have hj64 : j < 64:=by omega
   have ha:=hasB_nat aa j hj64
   have hji : (j : Int) < (nS : Int):=by omega
   replace BD:=hid BD
   go_wp2_with fail
   cases hq : aa.testBit j
   ·have hz : Hid (brL R (c.threads.length + 1) i sk m (j + 1) = brL R (c.threads.length + 1) i sk m j):=hid (by
     show (if _ then _ else _) = _
     rw [haq.out,hq];rfl)
    have hab : hasB aa (j : Int) = false:=ha.trans hq
    clear ha hq hin HV HU U2
    refine wp_region_held_drew (S:=fun (w' : World)=>w'.cell? ⟨W.heap.size + 1,0,none⟩ = some (.slice (some ⟨ob,ooff,none⟩) c.threads.length oc)∧w'.cell? ⟨ob,ooff + i,none⟩ = some (.slice (some ⟨B i,0,none⟩) rl cp)∧w'.cell? ⟨W.heap.size + 2,2,none⟩ = some (.int .i64 (sk : Int))∧w'.cell? ⟨B i,sk,none⟩ = some (.int .u64 (aa : Int))∧w'.cell? ⟨W.heap.size + 2,4,none⟩ = some (.int .i64 (m : Int))∧w'.cell? ⟨W.heap.size + 1,2,none⟩ = some (.slice (some ⟨fb,foff,none⟩) nS q2)∧w'.cell? ⟨fb,foff + j,none⟩ = some (.slice xr xl xc)) (by kernel_rfl) (⟨t0,t1,d2,t3,d4,t5,t6⟩) (fun hHeld=>?_)
    refine wT 0 ⟨some 43,.fieldAddr 35 (.tmp 5) 0,0,"ref.go:54",#[],none⟩ hHeld ?_
    try simp only [Act.put,sA,sB,sC]
    refine wT 1 ⟨some 44,.load 32 (.tmp 43),32,"ref.go:54",#[⟨0,.data⟩],none⟩ hHeld ?_
    try simp only [Act.put,sA,sB,sC]
    refine wT 2 ⟨some 45,.move (.tmp 2),3,"ref.go:54",#[],none⟩ hHeld ?_
    try simp only [Act.put,sA,sB,sC]
    refine wT 3 ⟨some 46,.indexAddr 32 (.tmp 44) (.tmp 45),0,"ref.go:54",#[⟨1,.data⟩,⟨2,.data⟩],none⟩ hHeld ?_
    try simp only [Act.put,sA,sB,sC]
    refine wT 4 ⟨some 47,.load 33 (.tmp 46),33,"ref.go:54",#[⟨3,.data⟩],none⟩ hHeld ?_
    try simp only [Act.put,sA,sB,sC]
    refine wT 5 ⟨some 48,.fieldAddr 50 (.tmp 7) 2,0,"ref.go:54",#[],none⟩ hHeld ?_
    try simp only [Act.put,sA,sB,sC]
    refine wT 6 ⟨some 49,.load 3 (.tmp 48),3,"ref.go:54",#[⟨5,.data⟩],none⟩ hHeld ?_
    try simp only [Act.put,sA,sB,sC]
    refine wT 7 ⟨some 50,.indexAddr 33 (.tmp 47) (.tmp 49),0,"ref.go:54",#[⟨4,.data⟩,⟨6,.data⟩],none⟩ hHeld ?_
    try simp only [Act.put,sA,sB,sC]
    refine wT 8 ⟨some 51,.load 44 (.tmp 50),44,"ref.go:54",#[⟨7,.data⟩],none⟩ hHeld ?_
    try simp only [Act.put,sA,sB,sC]
    refine wT 9 ⟨some 52,.move (.tmp 10),3,"ref.go:54",#[],none⟩ hHeld ?_
    try simp only [Act.put,sA,sB,sC]
    refine wO 10 ⟨some 53,.call ⟨.value (.func 18),#[.tmp 51,.tmp 52],#[44,3]⟩,4,"ref.go:54",#[⟨8,.data⟩,⟨9,.data⟩],none⟩ (fun K' hK'=>?_)
    go_simp
    go_at_call 18
    refine Calls.mono (hasS_any aa haa (j : Int) _) ?_
    rintro _ _ ⟨rfl,rfl⟩
    rw [hab]
    refine hK'.out _ _ hHeld (fun hHeld=>?_)
    clear hK' K'
    try simp only [Act.put,sA,sB,sC]
    refine wT 11 ⟨some 54,.move (.tmp 53),4,"ref.go:54",#[⟨10,.data⟩,⟨10,.chain⟩],none⟩ hHeld ?_
    try simp only [Act.put,sA,sB,sC]
    refine wU 12 ⟨some 55,.fieldAddr 50 (.tmp 7) 4,0,"ref.go:54",#[⟨11,.guard⟩],some (11,true)⟩ hHeld ?_
    try simp only [Act.put,sA,sB,sC]
    refine wU 13 ⟨some 56,.load 3 (.tmp 55),3,"ref.go:54",#[⟨12,.data⟩,⟨11,.guard⟩],some (11,true)⟩ hHeld ?_
    try simp only [Act.put,sA,sB,sC]
    refine wU 14 ⟨some 57,.fieldAddr 35 (.tmp 5) 2,0,"ref.go:54",#[⟨11,.guard⟩],some (11,true)⟩ hHeld ?_
    try simp only [Act.put,sA,sB,sC]
    refine wU 15 ⟨some 58,.load 32 (.tmp 57),32,"ref.go:54",#[⟨14,.data⟩,⟨11,.guard⟩],some (11,true)⟩ hHeld ?_
    try simp only [Act.put,sA,sB,sC]
    refine wU 16 ⟨some 59,.move (.tmp 10),3,"ref.go:54",#[⟨11,.guard⟩],some (11,true)⟩ hHeld ?_
    try simp only [Act.put,sA,sB,sC]
    refine wU 17 ⟨some 60,.indexAddr 32 (.tmp 58) (.tmp 59),0,"ref.go:54",#[⟨15,.data⟩,⟨16,.data⟩,⟨11,.guard⟩],some (11,true)⟩ hHeld ?_
    try simp only [Act.put,sA,sB,sC]
    refine wU 18 ⟨some 61,.load 33 (.tmp 60),33,"ref.go:54",#[⟨17,.data⟩,⟨11,.guard⟩],some (11,true)⟩ hHeld ?_
    try simp only [Act.put,sA,sB,sC]
    refine wU 19 ⟨some 62,.call ⟨.builtin .len,#[.tmp 61],#[33]⟩,3,"ref.go:54",#[⟨18,.data⟩,⟨11,.guard⟩],some (11,true)⟩ hHeld ?_
    try simp only [Act.put,sA,sB,sC]
    refine wU 20 ⟨some 63,.binOp .lss 3 (.tmp 56) (.tmp 62) 3,4,"ref.go:54",#[⟨13,.data⟩,⟨19,.data⟩,⟨11,.guard⟩],some (11,true)⟩ hHeld ?_
    try simp only [Act.put,sA,sB,sC]
    refine wT 21 ⟨some 64,.pick (.tmp 54) (.tmp 63) (.const (.bool false)),4,"ref.go:54",#[⟨11,.data⟩,⟨20,.data⟩],none⟩ hHeld ?_
    try simp only [Act.put,sA,sB,sC]
    refine wpAnyH_done (by kernel_rfl) ?_ _
    clear hHeld
    go_wp2_with fail
    go_roundw
    case rel=>exact ⟨j + 1,by go_num,by omega,by rw [hz.out],BD⟩
    case measure=>simp [intOf];omega
   ·have hz : Hid (brL R (c.threads.length + 1) i sk m (j + 1) = brL R (c.threads.length + 1) i sk m j ||| gR R (c.threads.length + 1 + j) m):=hid (by
     show (if _ then _ else _) = _
     rw [haq.out,hq];rfl)
    have hab : hasB aa (j : Int) = true:=ha.trans hq
    by_cases hml : m < xl
    ·obtain ⟨rfl,hb1,hb2⟩:=hin hml
     have y7:=(BD.out.bel.cell (p:=⟨B (c.threads.length + 1 + j),m,none⟩) hb1).trans hb2
     have hmi : (m : Int) < (xl : Int):=by omega
     have e1:=or64 (HU.out j) (U2.out (c.threads.length + 1 + j) m)
     rw [← hz.out] at e1
     have dd:=BR.out.b1.cell 2 (v:=.slice (some ⟨fb,foff,none⟩) nS q2) rfl
     have dd4:=BR.out.b2.cell 4 (v:=.int .i64 (m : Int)) rfl
     have dd6:=(BR.out.bel.cell (p:=⟨fb,foff + j,none⟩) hfb).trans y6
     have dd7:=(BR.out.bel.cell (p:=⟨B (c.threads.length + 1 + j),m,none⟩) hb1).trans hb2
     clear ha hq hin HV HU U2 hb1 hb2
     refine wp_region_held_drew (S:=fun (w' : World)=>w'.cell? ⟨W.heap.size + 1,0,none⟩ = some (.slice (some ⟨ob,ooff,none⟩) c.threads.length oc)∧w'.cell? ⟨ob,ooff + i,none⟩ = some (.slice (some ⟨B i,0,none⟩) rl cp)∧w'.cell? ⟨W.heap.size + 2,2,none⟩ = some (.int .i64 (sk : Int))∧w'.cell? ⟨B i,sk,none⟩ = some (.int .u64 (aa : Int))∧w'.cell? ⟨W.heap.size + 2,4,none⟩ = some (.int .i64 (m : Int))∧w'.cell? ⟨W.heap.size + 1,2,none⟩ = some (.slice (some ⟨fb,foff,none⟩) nS q2)∧w'.cell? ⟨fb,foff + j,none⟩ = some (.slice (some ⟨B (c.threads.length + 1 + j),0,none⟩) xl xc)) (by kernel_rfl) (⟨t0,t1,d2,t3,d4,t5,t6⟩) (fun hHeld=>?_)
     refine wT 0 ⟨some 43,.fieldAddr 35 (.tmp 5) 0,0,"ref.go:54",#[],none⟩ hHeld ?_
     try simp only [Act.put,sA,sB,sC]
     refine wT 1 ⟨some 44,.load 32 (.tmp 43),32,"ref.go:54",#[⟨0,.data⟩],none⟩ hHeld ?_
     try simp only [Act.put,sA,sB,sC]
     refine wT 2 ⟨some 45,.move (.tmp 2),3,"ref.go:54",#[],none⟩ hHeld ?_
     try simp only [Act.put,sA,sB,sC]
     refine wT 3 ⟨some 46,.indexAddr 32 (.tmp 44) (.tmp 45),0,"ref.go:54",#[⟨1,.data⟩,⟨2,.data⟩],none⟩ hHeld ?_
     try simp only [Act.put,sA,sB,sC]
     refine wT 4 ⟨some 47,.load 33 (.tmp 46),33,"ref.go:54",#[⟨3,.data⟩],none⟩ hHeld ?_
     try simp only [Act.put,sA,sB,sC]
     refine wT 5 ⟨some 48,.fieldAddr 50 (.tmp 7) 2,0,"ref.go:54",#[],none⟩ hHeld ?_
     try simp only [Act.put,sA,sB,sC]
     refine wT 6 ⟨some 49,.load 3 (.tmp 48),3,"ref.go:54",#[⟨5,.data⟩],none⟩ hHeld ?_
     try simp only [Act.put,sA,sB,sC]
     refine wT 7 ⟨some 50,.indexAddr 33 (.tmp 47) (.tmp 49),0,"ref.go:54",#[⟨4,.data⟩,⟨6,.data⟩],none⟩ hHeld ?_
     try simp only [Act.put,sA,sB,sC]
     refine wT 8 ⟨some 51,.load 44 (.tmp 50),44,"ref.go:54",#[⟨7,.data⟩],none⟩ hHeld ?_
     try simp only [Act.put,sA,sB,sC]
     refine wT 9 ⟨some 52,.move (.tmp 10),3,"ref.go:54",#[],none⟩ hHeld ?_
     try simp only [Act.put,sA,sB,sC]
     refine wO 10 ⟨some 53,.call ⟨.value (.func 18),#[.tmp 51,.tmp 52],#[44,3]⟩,4,"ref.go:54",#[⟨8,.data⟩,⟨9,.data⟩],none⟩ (fun K' hK'=>?_)
     go_simp
     go_at_call 18
     refine Calls.mono (hasS_any aa haa (j : Int) _) ?_
     rintro _ _ ⟨rfl,rfl⟩
     rw [hab]
     refine hK'.out _ _ hHeld (fun hHeld=>?_)
     clear hK' K'
     try simp only [Act.put,sA,sB,sC]
     refine wT 11 ⟨some 54,.move (.tmp 53),4,"ref.go:54",#[⟨10,.data⟩,⟨10,.chain⟩],none⟩ hHeld ?_
     try simp only [Act.put,sA,sB,sC]
     refine wT 12 ⟨some 55,.fieldAddr 50 (.tmp 7) 4,0,"ref.go:54",#[⟨11,.guard⟩],some (11,true)⟩ hHeld ?_
     try simp only [Act.put,sA,sB,sC]
     refine wT 13 ⟨some 56,.load 3 (.tmp 55),3,"ref.go:54",#[⟨12,.data⟩,⟨11,.guard⟩],some (11,true)⟩ hHeld ?_
     try simp only [Act.put,sA,sB,sC]
     refine wT 14 ⟨some 57,.fieldAddr 35 (.tmp 5) 2,0,"ref.go:54",#[⟨11,.guard⟩],some (11,true)⟩ hHeld ?_
     try simp only [Act.put,sA,sB,sC]
     refine wT 15 ⟨some 58,.load 32 (.tmp 57),32,"ref.go:54",#[⟨14,.data⟩,⟨11,.guard⟩],some (11,true)⟩ hHeld ?_
     try simp only [Act.put,sA,sB,sC]
     refine wT 16 ⟨some 59,.move (.tmp 10),3,"ref.go:54",#[⟨11,.guard⟩],some (11,true)⟩ hHeld ?_
     try simp only [Act.put,sA,sB,sC]
     refine wT 17 ⟨some 60,.indexAddr 32 (.tmp 58) (.tmp 59),0,"ref.go:54",#[⟨15,.data⟩,⟨16,.data⟩,⟨11,.guard⟩],some (11,true)⟩ hHeld ?_
     try simp only [Act.put,sA,sB,sC]
     refine wT 18 ⟨some 61,.load 33 (.tmp 60),33,"ref.go:54",#[⟨17,.data⟩,⟨11,.guard⟩],some (11,true)⟩ hHeld ?_
     try simp only [Act.put,sA,sB,sC]
     refine wT 19 ⟨some 62,.call ⟨.builtin .len,#[.tmp 61],#[33]⟩,3,"ref.go:54",#[⟨18,.data⟩,⟨11,.guard⟩],some (11,true)⟩ hHeld ?_
     try simp only [Act.put,sA,sB,sC]
     refine wT 20 ⟨some 63,.binOp .lss 3 (.tmp 56) (.tmp 62) 3,4,"ref.go:54",#[⟨13,.data⟩,⟨19,.data⟩,⟨11,.guard⟩],some (11,true)⟩ hHeld ?_
     try simp only [Act.put,sA,sB,sC]
     refine wT 21 ⟨some 64,.pick (.tmp 54) (.tmp 63) (.const (.bool false)),4,"ref.go:54",#[⟨11,.data⟩,⟨20,.data⟩],none⟩ hHeld ?_
     try simp only [Act.put,sA,sB,sC]
     refine wpAnyH_done (by kernel_rfl) ?_ _
     clear hHeld
     go_wp2_with fail
     go_quiet (fail)
     go_wp2_with fail
     go_roundw
     case rel=>exact ⟨j + 1,by go_num,by omega,rfl,hid (BR.out.kept (below_drewN (Below.refl _ _) _))⟩
     case measure=>simp [intOf];omega
    ·have hmi : (xl : Int)≤(m : Int):=by omega
     have hz2 : Hid (brL R (c.threads.length + 1) i sk m (j + 1) = brL R (c.threads.length + 1) i sk m j):=hid (by rw [hz.out,gR_out (by rw [← hxl.out];exact hml),Nat.or_zero])
     clear ha hq hin HV HU U2
     refine wp_region_held_drew (S:=fun (w' : World)=>w'.cell? ⟨W.heap.size + 1,0,none⟩ = some (.slice (some ⟨ob,ooff,none⟩) c.threads.length oc)∧w'.cell? ⟨ob,ooff + i,none⟩ = some (.slice (some ⟨B i,0,none⟩) rl cp)∧w'.cell? ⟨W.heap.size + 2,2,none⟩ = some (.int .i64 (sk : Int))∧w'.cell? ⟨B i,sk,none⟩ = some (.int .u64 (aa : Int))∧w'.cell? ⟨W.heap.size + 2,4,none⟩ = some (.int .i64 (m : Int))∧w'.cell? ⟨W.heap.size + 1,2,none⟩ = some (.slice (some ⟨fb,foff,none⟩) nS q2)∧w'.cell? ⟨fb,foff + j,none⟩ = some (.slice xr xl xc)) (by kernel_rfl) (⟨t0,t1,d2,t3,d4,t5,t6⟩) (fun hHeld=>?_)
     refine wT 0 ⟨some 43,.fieldAddr 35 (.tmp 5) 0,0,"ref.go:54",#[],none⟩ hHeld ?_
     try simp only [Act.put,sA,sB,sC]
     refine wT 1 ⟨some 44,.load 32 (.tmp 43),32,"ref.go:54",#[⟨0,.data⟩],none⟩ hHeld ?_
     try simp only [Act.put,sA,sB,sC]
     refine wT 2 ⟨some 45,.move (.tmp 2),3,"ref.go:54",#[],none⟩ hHeld ?_
     try simp only [Act.put,sA,sB,sC]
     refine wT 3 ⟨some 46,.indexAddr 32 (.tmp 44) (.tmp 45),0,"ref.go:54",#[⟨1,.data⟩,⟨2,.data⟩],none⟩ hHeld ?_
     try simp only [Act.put,sA,sB,sC]
     refine wT 4 ⟨some 47,.load 33 (.tmp 46),33,"ref.go:54",#[⟨3,.data⟩],none⟩ hHeld ?_
     try simp only [Act.put,sA,sB,sC]
     refine wT 5 ⟨some 48,.fieldAddr 50 (.tmp 7) 2,0,"ref.go:54",#[],none⟩ hHeld ?_
     try simp only [Act.put,sA,sB,sC]
     refine wT 6 ⟨some 49,.load 3 (.tmp 48),3,"ref.go:54",#[⟨5,.data⟩],none⟩ hHeld ?_
     try simp only [Act.put,sA,sB,sC]
     refine wT 7 ⟨some 50,.indexAddr 33 (.tmp 47) (.tmp 49),0,"ref.go:54",#[⟨4,.data⟩,⟨6,.data⟩],none⟩ hHeld ?_
     try simp only [Act.put,sA,sB,sC]
     refine wT 8 ⟨some 51,.load 44 (.tmp 50),44,"ref.go:54",#[⟨7,.data⟩],none⟩ hHeld ?_
     try simp only [Act.put,sA,sB,sC]
     refine wT 9 ⟨some 52,.move (.tmp 10),3,"ref.go:54",#[],none⟩ hHeld ?_
     try simp only [Act.put,sA,sB,sC]
     refine wO 10 ⟨some 53,.call ⟨.value (.func 18),#[.tmp 51,.tmp 52],#[44,3]⟩,4,"ref.go:54",#[⟨8,.data⟩,⟨9,.data⟩],none⟩ (fun K' hK'=>?_)
     go_simp
     go_at_call 18
     refine Calls.mono (hasS_any aa haa (j : Int) _) ?_
     rintro _ _ ⟨rfl,rfl⟩
     rw [hab]
     refine hK'.out _ _ hHeld (fun hHeld=>?_)
     clear hK' K'
     try simp only [Act.put,sA,sB,sC]
     refine wT 11 ⟨some 54,.move (.tmp 53),4,"ref.go:54",#[⟨10,.data⟩,⟨10,.chain⟩],none⟩ hHeld ?_
     try simp only [Act.put,sA,sB,sC]
     refine wT 12 ⟨some 55,.fieldAddr 50 (.tmp 7) 4,0,"ref.go:54",#[⟨11,.guard⟩],some (11,true)⟩ hHeld ?_
     try simp only [Act.put,sA,sB,sC]
     refine wT 13 ⟨some 56,.load 3 (.tmp 55),3,"ref.go:54",#[⟨12,.data⟩,⟨11,.guard⟩],some (11,true)⟩ hHeld ?_
     try simp only [Act.put,sA,sB,sC]
     refine wT 14 ⟨some 57,.fieldAddr 35 (.tmp 5) 2,0,"ref.go:54",#[⟨11,.guard⟩],some (11,true)⟩ hHeld ?_
     try simp only [Act.put,sA,sB,sC]
     refine wT 15 ⟨some 58,.load 32 (.tmp 57),32,"ref.go:54",#[⟨14,.data⟩,⟨11,.guard⟩],some (11,true)⟩ hHeld ?_
     try simp only [Act.put,sA,sB,sC]
     refine wT 16 ⟨some 59,.move (.tmp 10),3,"ref.go:54",#[⟨11,.guard⟩],some (11,true)⟩ hHeld ?_
     try simp only [Act.put,sA,sB,sC]
     refine wT 17 ⟨some 60,.indexAddr 32 (.tmp 58) (.tmp 59),0,"ref.go:54",#[⟨15,.data⟩,⟨16,.data⟩,⟨11,.guard⟩],some (11,true)⟩ hHeld ?_
     try simp only [Act.put,sA,sB,sC]
     refine wT 18 ⟨some 61,.load 33 (.tmp 60),33,"ref.go:54",#[⟨17,.data⟩,⟨11,.guard⟩],some (11,true)⟩ hHeld ?_
     try simp only [Act.put,sA,sB,sC]
     refine wT 19 ⟨some 62,.call ⟨.builtin .len,#[.tmp 61],#[33]⟩,3,"ref.go:54",#[⟨18,.data⟩,⟨11,.guard⟩],some (11,true)⟩ hHeld ?_
     try simp only [Act.put,sA,sB,sC]
     refine wT 20 ⟨some 63,.binOp .lss 3 (.tmp 56) (.tmp 62) 3,4,"ref.go:54",#[⟨13,.data⟩,⟨19,.data⟩,⟨11,.guard⟩],some (11,true)⟩ hHeld ?_
     try simp only [Act.put,sA,sB,sC]
     refine wT 21 ⟨some 64,.pick (.tmp 54) (.tmp 63) (.const (.bool false)),4,"ref.go:54",#[⟨11,.data⟩,⟨20,.data⟩],none⟩ hHeld ?_
     try simp only [Act.put,sA,sB,sC]
     refine wpAnyH_done (by kernel_rfl) ?_ _
     clear hHeld
     go_wp2_with fail
     go_roundw
     case rel=>exact ⟨j + 1,by go_num,by omega,by rw [hz2.out],BD⟩
     case measure=>simp [intOf];omega
  ·have e : j = nS:=by omega
   subst e
   clear HV HU U2
   go_wp2_with fail
   go_ret
   exact ⟨rfl,BR.out.bel⟩

theorem brings_any {c : Cd} {W : World} {base top : Nat} {v0 v1 v2 : Value} {R : List (List Nat)} {V : Nat→Value} {B : Nat→Nat} (hc : c.okW W) (g : GoodP c) (h : SetsM W base top c.threads.length c.sites.length v0 v1 v2 R V B) (hL : Low c R) {i k : Nat} {b : Bd} {x : Ins} (hb : c.threads[i]? = some b) (hx : b.code[k]? = some x) (hd : dstB b x = true) :
  Calls Tryd.prog 29 #[.agg c.cells.toArray,.agg #[v0,v1,v2],.int .i64 (i : Int),.agg x.cells.toArray] W fun e W'=>e = .returned (.int .u64 ((brM c R i x : Nat) : Int))∧Below W.heap.size W W':=by
 rcases (dst_cases g hb hx hd).1 with e | e | e | e | e
 ·exact br1 hc g h hL hb hx hd e
 ·exact br2 hc g h hL hb hx hd e
 ·exact br3 hc g h hL hb hx hd e
 ·exact br8 hc g h hL hb hx hd e
 ·exact br9 hc g h hL hb hx hd e
end Go.Proofs.YtkdpcaoocmbbhaaDoor
