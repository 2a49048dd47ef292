/- The document's Solve: the least sets. -/
import Derived.Test.YtkdpcaoocmbbhaaDoorRj
import Derived.Test.YtkdpcaoocmbbhaaDoorM11
import Derived.Test.YtkdpcaoocmbbhaaDoorM13
import Derived.Test.YtkdpcaoocmbbhaaDoorM09
import Derived.Deep.LoopGhost
import Derived.Deep.DeepCutAuto
namespace Go.Proofs.YtkdpcaoocmbbhaaDoor
open Go.ChangeShapes Go.WideShapes Go.ChangeAt Go.RowKit Go.Deep
set_option linter.unusedVariables false
set_option linter.unusedSimpArgs false

/-- Between the rounds of the document's Solve. -/
structure DsW (w : World) (sb base top : Nat) (c : Cd) (u0 u1 u2 : Value) (R : List (List Nat)) (V : Nat→Value) (B : Nat→Nat) (X : World) : Prop where
 b0 : VarAt X w.heap.size [c.rv,c.gv,c.tv,c.ev,c.cv] 28
 b1 : VarAt X (w.heap.size + 1) [.slice none 0 0,.slice none 0 0,.slice none 0 0] 35
 bs : VarAt X sb [u0,u1,u2] 35
 sets : SetsM X base top c.threads.length c.sites.length u0 u1 u2 R V B
 ab : top≤sb∨sb < base
 lo : w.heap.size + 2≤base∧w.heap.size + 2≤sb∧top≤X.heap.size
 bel : Below w.heap.size w X
theorem DsW.kept {w X X' : World} {sb base top : Nat} {c : Cd} {u0 u1 u2 : Value} {R : List (List Nat)} {V : Nat→Value} {B : Nat→Nat} (h : DsW w sb base top c u0 u1 u2 R V B X) (k : Below X.heap.size X X') : DsW w sb base top c u0 u1 u2 R V B X' :=
 ⟨h.b0.kept k,h.b1.kept k,h.bs.kept k,h.sets.kept k,h.ab,⟨h.lo.1,h.lo.2.1,Nat.le_trans h.lo.2.2 k.size⟩,h.bel.trans (k.mono h.bel.size)⟩
/-- A box is made anew at the end, and set. -/
theorem DsW.box {w X z : World} {sb base top : Nat} {c : Cd} {u0 u1 u2 : Value} {R : List (List Nat)} {V : Nat→Value} {B : Nat→Nat} (h : DsW w sb base top c u0 u1 u2 R V B X) (o : Obj) (ht : Turned X.heap.size (X.alloc o) z) : DsW w sb base top c u0 u1 u2 R V B z:=by
 have ba:=(Below.refl X.heap.size X).alloc (Nat.le_refl _) o
 have l0:=h.bs.lt
 have l1:=h.lo
 exact ⟨ht.var (h.b0.kept ba) (by omega),ht.var (h.b1.kept ba) (by omega),ht.var (h.bs.kept ba) (by omega),(h.sets.kept ba).touch ht.t1 (fun b h1 h2 e=>by omega),h.ab,⟨l1.1,l1.2.1,by rw [ht.size];exact Nat.le_trans l1.2.2 ba.size⟩,ht.below (h.bel.trans (ba.mono h.bel.size)) (by omega)⟩
/-- Other sets take the place. -/
theorem DsW.put {w X z : World} {sb base top base' top' : Nat} {c : Cd} {u0 u1 u2 v0 v1 v2 : Value} {R R' : List (List Nat)} {V V' : Nat→Value} {B B' : Nat→Nat} (h : DsW w sb base top c u0 u1 u2 R V B X) (hs : SetsM X base' top' c.threads.length c.sites.length v0 v1 v2 R' V' B') (h1 : sb < base') (h2 : top'≤X.heap.size) (hv : VarAt z sb [v0,v1,v2] 35) (ht : Turned sb X z) : DsW w sb base' top' c v0 v1 v2 R' V' B' z:=by
 have l1:=h.lo
 exact ⟨ht.var h.b0 (by omega),ht.var h.b1 (by omega),hv,hs.touch ht.t1 (fun b h1 h2 e=>by omega),.inr h1,⟨by omega,l1.2.1,by rw [ht.size];exact h2⟩,ht.below h.bel (by omega)⟩
/-- Where it begins. -/
theorem DsW.begins {w X y z : World} {c : Cd} {u0 u1 u2 : Value} {R : List (List Nat)} {V : Nat→Value} {B : Nat→Nat} (b0 : VarAt X w.heap.size [c.rv,c.gv,c.tv,c.ev,c.cv] 28) (b1 : VarAt X (w.heap.size + 1) [.slice none 0 0,.slice none 0 0,.slice none 0 0] 35) (bx : Below w.heap.size w X) (k : Below X.heap.size X y) (hs : SetsM y X.heap.size y.heap.size c.threads.length c.sites.length u0 u1 u2 R V B)
  (hv : VarAt z y.heap.size [u0,u1,u2] 35) (o : Obj) (ht : Turned y.heap.size (y.alloc o) z) : DsW w y.heap.size X.heap.size y.heap.size c u0 u1 u2 R V B z:=by
 have ba:=(Below.refl y.heap.size y).alloc (Nat.le_refl _) o
 have l1:=b1.lt
 have l2:=k.size
 have l3:=ba.size
 exact ⟨ht.var ((b0.kept k).kept ba) (by omega),ht.var ((b1.kept k).kept ba) (by omega),hv,(hs.kept ba).touch ht.t1 (fun b h1 h2 e=>by omega),.inl (Nat.le_refl _),⟨by omega,by omega,by rw [ht.size];exact ba.size⟩,ht.below (bx.trans ((k.trans (ba.mono k.size)).mono bx.size)) (by omega)⟩

set_option maxRecDepth 100000 in
set_option maxHeartbeats 2000000 in
theorem dsolve_any (c : Cd) (w : World) (hc : c.okW w) (hs : SmallP c) : Calls Tryd.prog 12 #[.agg c.cells.toArray] w (SolveP c w):=by
 have CG:=fun W (h : Below w.heap.size w W)=>rgood_says c W (Cd.kept hc h) hs
 have CE:=fun (g : GoodP c) W (h : Below w.heap.size w W)=>empty2_any c W (Cd.kept hc h) g
 have CR:=fun (g : GoodP c) W (h : Below w.heap.size w W) b0 t0 v0 v1 v2 R V B (hs : SetsM W b0 t0 c.threads.length c.sites.length v0 v1 v2 R V B) (hL : Low c R)=>round_any (Cd.kept hc h) g hs hL
 simp only [Cd.cells] at CE CR ⊢
 replace CG:=hid CG
 replace CE:=hid CE
 replace CR:=hid CR
 have BX:=hid (below2 w (.cells #[c.rv,c.gv,c.tv,c.ev,c.cv] 28) (.cells #[.slice none 0 0,.slice none 0 0,.slice none 0 0] 35))
 have V0:=hid ((VarAt.new w [c.rv,c.gv,c.tv,c.ev,c.cv] 28).past (.cells #[.slice none 0 0,.slice none 0 0,.slice none 0 0] 35))
 have V1:=VarAt.new (w.alloc (.cells #[c.rv,c.gv,c.tv,c.ev,c.cv] 28)) [.slice none 0 0,.slice none 0 0,.slice none 0 0] 35
 simp only [World.size_alloc] at V1
 replace V1:=hid V1
 obtain ⟨y0,y1,y2,y3,y4⟩:=cells5 V0.out
 clear hc hs
 by_cases G : GoodP c
 ·replace CG:=hid (fun W h=>(CG.out W h).mono (fun e w' (k : Ans (GoodP c) W e w')=>(by
   obtain ⟨q,h1,h2,h3⟩:=k
   obtain rfl : q = true:=h2.2 G
   exact ⟨h1,h3⟩ : e = .returned (.bool true)∧Below W.heap.size W w')))
  replace CE:=hid (CE.out G)
  replace CR:=hid (CR.out G)
  replace G:=hid G
  go_enter Tryd.func12,Tryd.ntmps12
  go_wp2_with (first
   | (go_at_call 13;refine Calls.mono (CG.out _ BX.out) ?_;rintro _ w1 ⟨rfl,hk⟩;replace BX:=hid (BX.out.trans (hk.mono BX.out.size));replace V0:=hid (V0.out.kept hk);replace V1:=hid (V1.out.kept hk);clear hk CG y0 y1 y2 y3 y4;obtain ⟨y0,y1,y2,y3,y4⟩:=cells5 V0.out)
   | (go_at_call 24;refine Calls.mono (CE.out _ BX.out) ?_;rintro _ y ⟨u0,u1,u2,VV,BB,rfl,sm,hk⟩;have SM:=hid sm;have HK:=hid hk;have VS:=hid (VarAt.new y [.slice none 0 0,.slice none 0 0,.slice none 0 0] 35);obtain ⟨s0,n0,q0,s1,n1,q1,s2,n2,q2,rfl,rfl,rfl⟩:=sm.ones;clear sm hk CE y0 y1 y2 y3 y4)
   | (refine wl_store_box 35 _ _ rfl rfl _ rfl [.slice s0 n0 q0,.slice s1 n1 q1,.slice s2 n2 q2] rfl size35 (ones3 rfl rfl rfl) _ _ VS.out rfl rfl ?_;intro z hv ht))
  try simp only [Act.put]
  have DW:=hid (DsW.begins V0.out V1.out BX.out HK.out SM.out hv _ ht)
  have LW:=hid (low_zero c)
  generalize y.heap.size = sb at *
  clear hv ht HK SM VS V0 V1 BX
  go_loopg [] (64 * tot (shapeC c) - cntR (zeroR c)) (fun k wr=>∃ (base top : Nat) (u0 u1 u2 : Value) (R : List (List Nat)) (V : Nat→Value) (B : Nat→Nat),k = 64 * tot (shapeC c) - cntR R∧Hid (DsW w sb base top c u0 u1 u2 R V B wr)∧Hid (Low c R))
  case atStart=>exact ⟨_,_,_,_,_,_,_,_,rfl,DW,LW⟩
  case round =>
   clear DW LW
   obtain ⟨base,top,u0,u1,u2,R,V,B,rfl,DW,LW⟩:=hrel
   obtain ⟨s0,n0,q0,s1,n1,q1,s2,n2,q2,rfl,rfl,rfl⟩:=DW.out.sets.ones
   obtain ⟨y0,y1,y2,y3,y4⟩:=cells5 DW.out.b0
   have o0:=DW.out.bs.cell 0 rfl
   have o1:=DW.out.bs.cell 1 rfl
   have o2:=DW.out.bs.cell 2 rfl
   have sbl:=hid DW.out.bs.lt
   have CRR:=hid (CR.out wr DW.out.bel _ _ _ _ _ _ _ _ DW.out.sets LW.out)
   go_upto_region 5 with (first
    | (go_at_call 14;refine Calls.mono CRR.out ?_;rintro _ W1 ⟨m0,m1,m2,R2,V2,B2,rfl,sm,md,cl,hk⟩;have HZ:=hid hk.size;replace DW:=hid (DW.out.kept hk);have SM:=hid sm;have MD:=hid md;have CL:=hid cl;obtain ⟨p0,l0,c0,p1,l1,c1,p2,l2,c2,rfl,rfl,rfl⟩:=sm.ones;have VS:=hid (VarAt.new W1 [.slice none 0 0,.slice none 0 0,.slice none 0 0] 35);clear sm md cl hk y0 y1 y2 y3 y4 o0 o1 o2 CRR)
    | (refine wl_store_box 35 _ _ rfl rfl _ rfl [.slice p0 l0 c0,.slice p1 l1 c1,.slice p2 l2 c2] rfl size35 (ones3 rfl rfl rfl) _ _ VS.out rfl rfl ?_;intro z hv ht))
   rename_i K hK
   replace hK:=hid hK
   try simp only [Act.put]
   have BA:=(Below.refl W1.heap.size W1).alloc (Nat.le_refl _) (.cells #[.slice none 0 0,.slice none 0 0,.slice none 0 0] 35)
   replace DW:=hid (DW.out.box _ ht)
   replace SM:=hid ((SM.out.kept BA).touch ht.t1 (fun b h1 h2 e=>by omega))
   have VN:=hid hv
   have HT:=hid (show W1.heap.size≤z.heap.size by rw [ht.size];exact BA.size)
   clear hv ht VS BA
   generalize W1.heap.size = nb at *
   have o0:=DW.out.bs.cell 0 rfl
   have o1:=DW.out.bs.cell 1 rfl
   have o2:=DW.out.bs.cell 2 rfl
   have n0':=VN.out.cell 0 rfl
   have n1':=VN.out.cell 1 rfl
   have n2':=VN.out.cell 2 rfl
   have L2:=hid (MD.out.low LW.out)
   have CS:=hid (same_any DW.out.sets (sms_good G.out LW.out.1) (LW.out.allU G.out) SM.out (sms_good G.out L2.out.1) (L2.out.allU G.out))
   by_cases e : R2 = R
   ·have ed : decide (flatR c.threads.length c.sites.length R = flatR c.threads.length c.sites.length R2) = true:=by rw [e];simp
    rw [ed] at CS
    clear ed
    go_wp2_with (go_at_call 10;refine Calls.mono CS.out ?_;rintro _ z1 ⟨rfl,hk⟩;replace DW:=hid (DW.out.kept hk);clear hk CS o0 o1 o2 n0' n1' n2')
    refine hK.out _ _ ?_
    clear hK K
    have o0:=DW.out.bs.cell 0 rfl
    have o1:=DW.out.bs.cell 1 rfl
    have o2:=DW.out.bs.cell 2 rfl
    go_wp2_with (refine wl_store_box 35 _ _ rfl rfl (w.heap.size + 1) rfl [.slice s0 n0 q0,.slice s1 n1 q1,.slice s2 n2 q2] rfl size35 (ones3 rfl rfl rfl) _ _ DW.out.b1 rfl rfl ?_;intro w2 hv ht)
    try simp only [Act.put]
    refine bodyPost_ret (results_cell_row rfl _ _ (w.heap.size + 1) _ _ _ _ rfl hv Tryd.underlying35 rfl (by kernel_rfl)) rfl ?_
    have lo:=DW.out.lo
    have sz:=ht.size
    exact ⟨_,_,_,rfl,ht.below DW.out.bel (by omega),fun _=>⟨R,V,B,(DW.out.sets.touch ht.t1 (fun b h1 h2 e=>by omega)).wide (by omega) (by omega),LW.out,CL.out e⟩,fun g=>absurd G.out g⟩
   ·have ed : decide (flatR c.threads.length c.sites.length R = flatR c.threads.length c.sites.length R2) = false:=by
     rw [decide_eq_false_iff_not]
     exact fun q=>e (flat_inj (len_shape LW.out.1) (LW.out.1.trans L2.out.1.symm) q).symm
    rw [ed] at CS
    have hms:=hid (cnt_grows (LW.out.1.trans L2.out.1.symm) MD.out.le (LW.out.allU G.out) (L2.out.allU G.out) e)
    have hle:=hid (cntR_le R2)
    rw [L2.out.1] at hle
    clear ed e
    go_wp2_with (go_at_call 10;refine Calls.mono CS.out ?_;rintro _ z1 ⟨rfl,hk⟩;replace DW:=hid (DW.out.kept hk);replace SM:=hid (SM.out.kept hk);replace VN:=hid (VN.out.kept hk);replace HT:=hid (Nat.le_trans HT.out hk.size);clear hk CS o0 o1 o2 n0' n1' n2')
    refine hK.out _ _ ?_
    clear hK K
    have n0':=VN.out.cell 0 rfl
    have n1':=VN.out.cell 1 rfl
    have n2':=VN.out.cell 2 rfl
    go_wp2_with (refine wl_store_box 35 _ _ rfl rfl sb rfl [.slice p0 l0 c0,.slice p1 l1 c1,.slice p2 l2 c2] rfl size35 (ones3 rfl rfl rfl) _ _ DW.out.bs rfl rfl ?_;intro w2 hv ht)
    try simp only [Act.put]
    replace DW:=hid (DW.out.put SM.out sbl.out HT.out hv ht)
    clear hv ht SM VN MD CL
    go_roundg (64 * tot (shapeC c) - cntR R2)
    case measure=>have:=hms.out;have:=hle.out;omega
    case rel=>exact ⟨_,_,_,_,_,R2,_,_,rfl,DW,L2⟩
 ·replace CG:=hid (fun W h=>(CG.out W h).mono (fun e w' (k : Ans (GoodP c) W e w')=>(by
   obtain ⟨q,h1,h2,h3⟩:=k
   obtain rfl : q = false:=by cases q;rfl;exact absurd (h2.1 rfl) G
   exact ⟨h1,h3⟩ : e = .returned (.bool false)∧Below W.heap.size W w')))
  replace G:=hid G
  clear CE CR
  go_enter Tryd.func12,Tryd.ntmps12
  go_wp2_with (first
   | (go_at_call 13;refine Calls.mono (CG.out _ BX.out) ?_;rintro _ w1 ⟨rfl,hk⟩;replace BX:=hid (BX.out.trans (hk.mono BX.out.size));replace V0:=hid (V0.out.kept hk);replace V1:=hid (V1.out.kept hk);clear hk CG y0 y1 y2 y3 y4)
   | (refine wl_store_box 35 _ _ rfl rfl (w.heap.size + 1) rfl [.slice none 0 0,.slice none 0 0,.slice none 0 0] rfl size35 (ones3 rfl rfl rfl) _ _ V1.out rfl rfl ?_;intro w2 hv ht))
  try simp only [Act.put]
  refine bodyPost_ret (results_cell_row rfl _ _ (w.heap.size + 1) _ _ _ _ rfl hv Tryd.underlying35 rfl (by kernel_rfl)) rfl ?_
  exact ⟨_,_,_,rfl,ht.below BX.out (by omega),fun g=>absurd g G.out,fun _=>⟨rfl,rfl,rfl⟩⟩
end Go.Proofs.YtkdpcaoocmbbhaaDoor
