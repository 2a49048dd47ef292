/- The walk of PtsHolds. -/
import Derived.Test.YtkdpcaoocmbbhaaDoorWt
import Derived.Test.YtkdpcaoocmbbhaaDoorRj
import Derived.Test.YtkdpcaoocmbbhaaDoorM13
import Derived.Test.YtkdpcaoocmbbhaaDoorM07
import Derived.Test.YtkdpcaoocmbbhaaDoorM12
import Derived.Test.YtkdpcaoocmbbhaaDoorM09
namespace Go.Proofs.YtkdpcaoocmbbhaaDoor
open Go.ChangeShapes Go.WideShapes Go.ChangeAt Go.RowKit Go.Deep
set_option linter.unusedVariables false
set_option linter.unusedSimpArgs false

set_option maxRecDepth 100000 in
set_option maxHeartbeats 2000000 in
theorem walkHolds (v0 : Value) (c : Cd) (w : World) (w0 : IsCd w v0 c) (hTab : Tab w) :
  Calls Tryd.prog 4 #[v0] w fun e w'=>e = .returned (.bool true)∧Below w.heap.size w w':=by
 obtain ⟨rfl,hc⟩:=w0
 have DG:=hid (fun W (h : Below w.heap.size w W)=>great_any c W (Cd.kept hc h))
 have DR:=hid (fun (s : SmallP c) W (h : Below w.heap.size w W)=>rgood_says c W (Cd.kept hc h) s)
 have DS:=hid (fun (s : SmallP c) W (h : Below w.heap.size w W)=>solve_any c W (Cd.kept hc h) s (hTab.kept h))
 have DO0:=hid (fun (g : GoodP c) W (h : Below w.heap.size w W) b0 t0 v0 v1 v2 R V B (hs : SetsM W b0 t0 c.threads.length c.sites.length v0 v1 v2 R V B) (hL : Low c R)=>round_any (Cd.kept hc h) g hs hL)
 obtain ⟨ta,tp,te,-⟩:=RowOf.at hc.2.2.1
 have TE:=hid te
 clear te
 simp only [Cd.cells] at DS DO0
 have CA:=hid (fun W (h : Below w.heap.size w W)=>alive_any W (hTab.kept h))
 have B:=hid ((Below.refl w.heap.size w).alloc (Nat.le_refl _) (.cells #[c.rv,c.gv,c.tv,c.ev,c.cv] 28))
 have KC:=hid (VarAt.new w [c.rv,c.gv,c.tv,c.ev,c.cv] 28)
 obtain ⟨y0,y1,y2,y3,y4⟩:=cells5 KC.out
 clear hc
 have A13 : Hid (∀ (s : SmallP c) W (h : Below w.heap.size w W),Calls Tryd.prog 13 #[.agg #[c.rv,c.gv,c.tv,c.ev,c.cv]] W fun e w'=>(GoodP c∧e = .returned (.bool true)∨¬ GoodP c∧e = .returned (.bool false))∧Below W.heap.size W w'):=hid (fun s W h=>(DR.out s W h).mono (fun e w' k=>by
  obtain ⟨q,h1,h2,h3⟩:=k
  refine ⟨?_,h3⟩
  cases q
  ·exact .inr ⟨fun g=>(by have:=h2.2 g;cases this),h1⟩
  ·exact .inl ⟨h2.1 rfl,h1⟩))
 have A9 : Hid (∀ W (h : Below w.heap.size w W),Calls Tryd.prog 9 #[.agg #[c.rv,c.gv,c.tv,c.ev,c.cv]] W fun e w'=>(e = .returned (.bool true)∨SmallP c∧e = .returned (.bool false))∧Below W.heap.size W w'):=hid (fun W h=>(DG.out W h).mono (fun e w' k=>by
  obtain ⟨q,h1,h2,h3⟩:=k
  refine ⟨?_,h3⟩
  cases q
  ·exact .inr ⟨h2 rfl,h1⟩
  ·exact .inl h1))
 clear DR DG
 go_enter Tryd.func4,Tryd.ntmps4
 go_upto_region 5 with (first
  | (go_at_call 8;refine Calls.mono (CA.out _ B.out) ?_;rintro e w1 ⟨rfl,hb⟩;replace B:=hid (B.out.trans (hb.mono B.out.size));replace KC:=hid (KC.out.kept hb);clear hb CA y0 y1 y2 y3 y4;obtain ⟨y0,y1,y2,y3,y4⟩:=cells5 KC.out)
  | (go_at_call 9;refine Calls.mono (A9.out _ B.out) ?_;rintro e w2 ⟨(rfl | ⟨hq,rfl⟩),hb⟩ <;> (replace B:=hid (B.out.trans (hb.mono B.out.size));replace KC:=hid (KC.out.kept hb);clear hb A9 y0 y1 y2 y3 y4;obtain ⟨y0,y1,y2,y3,y4⟩:=cells5 KC.out;try replace hq:=hid hq))
  | (go_at_call 13;refine Calls.mono (A13.out hq.out _ B.out) ?_;rintro e w3 ⟨(⟨hg,rfl⟩ | ⟨hg,rfl⟩),hb⟩ <;> (replace B:=hid (B.out.trans (hb.mono B.out.size));replace KC:=hid (KC.out.kept hb);clear hb A13 y0 y1 y2 y3 y4;obtain ⟨y0,y1,y2,y3,y4⟩:=cells5 KC.out;replace hg:=hid hg)))
 any_goals
  go_ret
  exact ⟨rfl,B.out⟩
 rename_i K hK
 replace hK:=hid hK
 have DS2:=hid (DS.out hq.out)
 have DO:=DO0.out hg.out
 rw [TE.out] at DO
 replace DO:=hid DO
 have G:=hid hg.out
 clear DS DO0 hq hg
 go_wp2_with (first
  | (go_at_call 11;refine Calls.mono (DS2.out _ B.out) ?_;rintro _ y ⟨v0,v1,v2,rfl,bl,hs,-⟩;obtain ⟨R,V,BB,sm,le⟩:=hs G.out;have SM:=hid sm;have LE:=hid le;replace B:=hid (B.out.trans (bl.mono B.out.size));replace KC:=hid (KC.out.kept bl);have VS:=hid (VarAt.new y [.slice none 0 0,.slice none 0 0,.slice none 0 0] 35);obtain ⟨s0,m0,q0,s1,n1,q1,s2,n2,q2,rfl,rfl,rfl⟩:=sm.ones;clear sm le bl hs DS2 y0 y1 y2 y3 y4)
  | (refine wl_store_box 35 _ _ rfl rfl _ rfl [.slice s0 m0 q0,.slice s1 n1 q1,.slice s2 n2 q2] rfl size35 (ones3 rfl rfl rfl) _ _ VS.out rfl rfl ?_;intro z hv ht))
 try simp only [Act.put]
 refine hK.out _ _ ?_
 clear hK K
 obtain rfl : m0 = c.threads.length:=by
  obtain ⟨a,cp,e,-⟩:=SM.out.o0
  exact (Value.slice.inj e).2.1
 have ba:=(Below.refl y.heap.size y).alloc (Nat.le_refl _) (.cells #[.slice none 0 0,.slice none 0 0,.slice none 0 0] 35)
 have kl:=KC.out.lt
 replace KC:=hid (ht.var (KC.out.kept ba) (by omega))
 have KS:=hid hv
 replace SM:=hid ((SM.out.kept ba).touch ht.t1 (fun b h1 h2 e=>by omega))
 replace B:=hid (ht.below (B.out.trans (ba.mono B.out.size)) B.out.size)
 clear ba kl hv ht VS
 generalize y.heap.size = sb at *
 go_wp2_with fail
 refine wp_region_held_drew (S:=fun (w' : World)=>w'.cell? ⟨w.heap.size,0,none⟩ = some (c.rv)∧w'.cell? ⟨w.heap.size,1,none⟩ = some (c.gv)∧w'.cell? ⟨w.heap.size,2,none⟩ = some (.slice ta c.threads.length tp)∧w'.cell? ⟨w.heap.size,3,none⟩ = some (c.ev)∧w'.cell? ⟨w.heap.size,4,none⟩ = some (c.cv)∧w'.cell? ⟨sb,0,none⟩ = some (.slice s0 c.threads.length q0)∧w'.cell? ⟨sb,1,none⟩ = some (.slice s1 n1 q1)∧w'.cell? ⟨sb,2,none⟩ = some (.slice s2 n2 q2)) (by kernel_rfl) (⟨((KC.out.kept (Below.refl _ _).drew).cell 0 rfl),((KC.out.kept (Below.refl _ _).drew).cell 1 rfl),(((KC.out.kept (Below.refl _ _).drew).cell 2 rfl).trans (congrArg some TE.out)),((KC.out.kept (Below.refl _ _).drew).cell 3 rfl),((KC.out.kept (Below.refl _ _).drew).cell 4 rfl),((KS.out.kept (Below.refl _ _).drew).cell 0 rfl),((KS.out.kept (Below.refl _ _).drew).cell 1 rfl),((KS.out.kept (Below.refl _ _).drew).cell 2 rfl)⟩) (fun hHeld=>?_)
 refine wT 0 ⟨some 15,.fieldAddr 35 (.tmp 3) 0,0,"law.go:41",#[],none⟩ hHeld ?_
 try simp only [Act.put,sA,sB,sC]
 refine wT 1 ⟨some 16,.load 32 (.tmp 15),32,"law.go:41",#[⟨0,.data⟩],none⟩ hHeld ?_
 try simp only [Act.put,sA,sB,sC]
 refine wT 2 ⟨some 17,.call ⟨.builtin .len,#[.tmp 16],#[32]⟩,3,"law.go:41",#[⟨1,.data⟩],none⟩ hHeld ?_
 try simp only [Act.put,sA,sB,sC]
 refine wT 3 ⟨some 18,.fieldAddr 28 (.tmp 1) 2,0,"law.go:41",#[],none⟩ hHeld ?_
 try simp only [Act.put,sA,sB,sC]
 refine wT 4 ⟨some 19,.load 24 (.tmp 18),24,"law.go:41",#[⟨3,.data⟩],none⟩ hHeld ?_
 try simp only [Act.put,sA,sB,sC]
 refine wT 5 ⟨some 20,.call ⟨.builtin .len,#[.tmp 19],#[24]⟩,3,"law.go:41",#[⟨4,.data⟩],none⟩ hHeld ?_
 try simp only [Act.put,sA,sB,sC]
 refine wT 6 ⟨some 21,.binOp .eql 3 (.tmp 17) (.tmp 20) 3,4,"law.go:41",#[⟨2,.data⟩,⟨5,.data⟩],none⟩ hHeld ?_
 try simp only [Act.put,sA,sB,sC]
 refine wT 7 ⟨some 22,.move (.tmp 21),4,"law.go:41",#[⟨6,.data⟩],none⟩ hHeld ?_
 try simp only [Act.put,sA,sB,sC]
 refine wT 8 ⟨some 23,.load 35 (.tmp 3),35,"law.go:41",#[⟨7,.guard⟩],some (7,true)⟩ hHeld ?_
 try simp only [Act.put,sA,sB,sC]
 refine wT 9 ⟨some 24,.load 28 (.tmp 1),28,"law.go:41",#[⟨7,.guard⟩],some (7,true)⟩ hHeld ?_
 try simp only [Act.put,sA,sB,sC]
 refine wT 10 ⟨some 25,.load 35 (.tmp 3),35,"law.go:41",#[⟨7,.guard⟩],some (7,true)⟩ hHeld ?_
 try simp only [Act.put,sA,sB,sC]
 refine wO 11 ⟨some 26,.call ⟨.value (.func 14),#[.tmp 24,.tmp 25],#[28,35]⟩,35,"law.go:41",#[⟨9,.data⟩,⟨10,.data⟩,⟨7,.chain⟩,⟨7,.guard⟩],some (7,true)⟩ (fun K' hK'=>?_)
 go_simp
 replace B:=hid B.out.drew
 replace KC:=hid (KC.out.kept (Below.refl _ _).drew)
 replace KS:=hid (KS.out.kept (Below.refl _ _).drew)
 replace SM:=hid (SM.out.kept (Below.refl _ _).drew)
 go_at_call 14
 refine Calls.mono (DO.out _ B.out _ _ _ _ _ _ _ _ SM.out LE.out.1) ?_
 rintro e y4 ⟨u0,u1,u2,R2,V2,B2,rfl,sn,md,-,hb⟩
 replace B:=hid (B.out.trans (hb.mono B.out.size))
 replace KC:=hid (KC.out.kept hb)
 replace KS:=hid (KS.out.kept hb)
 replace SM:=hid (SM.out.kept hb)
 obtain rfl : R2 = R:=LeR.anti (md.shape.trans LE.out.1.1.symm) (md.least R LE.out.1.1 LE.out.2 (LeR.refl _)) md.le
 have SN:=hid sn
 clear hb sn md
 have hz:=hid (show y4.cell? ⟨w.heap.size,0,none⟩ = some (c.rv)∧y4.cell? ⟨w.heap.size,1,none⟩ = some (c.gv)∧y4.cell? ⟨w.heap.size,2,none⟩ = some (.slice ta c.threads.length tp)∧y4.cell? ⟨w.heap.size,3,none⟩ = some (c.ev)∧y4.cell? ⟨w.heap.size,4,none⟩ = some (c.cv)∧y4.cell? ⟨sb,0,none⟩ = some (.slice s0 c.threads.length q0)∧y4.cell? ⟨sb,1,none⟩ = some (.slice s1 n1 q1)∧y4.cell? ⟨sb,2,none⟩ = some (.slice s2 n2 q2) from ⟨(KC.out.cell 0 rfl),(KC.out.cell 1 rfl),((KC.out.cell 2 rfl).trans (congrArg some TE.out)),(KC.out.cell 3 rfl),(KC.out.cell 4 rfl),(KS.out.cell 0 rfl),(KS.out.cell 1 rfl),(KS.out.cell 2 rfl)⟩)
 refine hK'.out _ _ hz.out (fun hHeld=>?_)
 clear hK' K'
 try simp only [Act.put,sA,sB,sC]
 refine wO 12 ⟨some 27,.call ⟨.value (.func 10),#[.tmp 23,.tmp 26],#[35,35]⟩,4,"law.go:41",#[⟨8,.data⟩,⟨11,.data⟩,⟨11,.chain⟩,⟨7,.guard⟩],some (7,true)⟩ (fun K' hK'=>?_)
 go_simp
 go_at_call 10
 refine Calls.mono (same_any SM.out (sms_good G.out LE.out.1.1) (LE.out.1.allU G.out) SN.out (sms_good G.out LE.out.1.1) (LE.out.1.allU G.out)) ?_
 rintro e y5 ⟨rfl,hb⟩
 replace B:=hid (B.out.trans (hb.mono B.out.size))
 replace KC:=hid (KC.out.kept hb)
 replace KS:=hid (KS.out.kept hb)
 replace SM:=hid (SM.out.kept hb)
 clear hb
 have hz:=hid (show y5.cell? ⟨w.heap.size,0,none⟩ = some (c.rv)∧y5.cell? ⟨w.heap.size,1,none⟩ = some (c.gv)∧y5.cell? ⟨w.heap.size,2,none⟩ = some (.slice ta c.threads.length tp)∧y5.cell? ⟨w.heap.size,3,none⟩ = some (c.ev)∧y5.cell? ⟨w.heap.size,4,none⟩ = some (c.cv)∧y5.cell? ⟨sb,0,none⟩ = some (.slice s0 c.threads.length q0)∧y5.cell? ⟨sb,1,none⟩ = some (.slice s1 n1 q1)∧y5.cell? ⟨sb,2,none⟩ = some (.slice s2 n2 q2) from ⟨(KC.out.cell 0 rfl),(KC.out.cell 1 rfl),((KC.out.cell 2 rfl).trans (congrArg some TE.out)),(KC.out.cell 3 rfl),(KC.out.cell 4 rfl),(KS.out.cell 0 rfl),(KS.out.cell 1 rfl),(KS.out.cell 2 rfl)⟩)
 refine hK'.out _ _ hz.out (fun hHeld=>?_)
 clear hK' K'
 try simp only [Act.put,sA,sB,sC]
 refine wT 13 ⟨some 28,.pick (.tmp 22) (.tmp 27) (.const (.bool false)),4,"law.go:41",#[⟨7,.data⟩,⟨12,.data⟩],none⟩ hHeld ?_
 try simp only [Act.put,sA,sB,sC]
 refine wT 14 ⟨some 2,.assign (.tmp 28),4,"law.go:41",#[⟨13,.data⟩,⟨12,.chain⟩,⟨0,.phase⟩,⟨1,.phase⟩,⟨2,.phase⟩,⟨3,.phase⟩,⟨4,.phase⟩,⟨5,.phase⟩,⟨6,.phase⟩,⟨7,.phase⟩,⟨8,.phase⟩,⟨9,.phase⟩,⟨10,.phase⟩,⟨11,.phase⟩,⟨12,.phase⟩,⟨13,.phase⟩],none⟩ hHeld ?_
 try simp only [Act.put,sA,sB,sC]
 refine wpAnyH_done (by kernel_rfl) ?_ _
 clear hHeld
 go_wp2_with fail
 go_ret
 exact ⟨rfl,B.out⟩
end Go.Proofs.YtkdpcaoocmbbhaaDoor
