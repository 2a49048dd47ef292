/- Contract of agrees: loads of globals and fields, sections, all others. -/
import Derived.Test.YtdpbapoahfggeaaDoorWt
import Derived.Test.YtdpbapoahfggeaaDoorAgrB
namespace Go.Proofs.YtdpbapoahfggeaaDoor
open Go.ChangeShapes Go.WideShapes Go.ChangeAt Go.RowKit
set_option linter.unusedVariables false
set_option linter.unusedSimpArgs false

theorem s14 {W : World} {b0 b1 : Nat} {v0 v1 v2 v3 v4 v5 v6 v7 v8 u0 u1 u2 u3 u4 u5 u6 u7 r0 r1 r2 : Value} {p0 p1 p2 : Addr} (h : BoxAt W b0 [v0,v1,v2,v3,v4,v5,v6,v7,v8]) (k : BoxAt W b1 [u0,u1,u2,u3,u4,u5,u6,u7]) (h0 : W.cell? p0 = some r0) (h1 : W.cell? p1 = some r1) (h2 : W.cell? p2 = some r2) :
  W.cell? ⟨b0,0,none⟩ = some v0∧W.cell? ⟨b0,1,none⟩ = some v1∧W.cell? ⟨b0,2,none⟩ = some v2∧W.cell? ⟨b0,3,none⟩ = some v3∧W.cell? ⟨b0,4,none⟩ = some v4∧W.cell? ⟨b0,5,none⟩ = some v5∧W.cell? ⟨b0,6,none⟩ = some v6∧W.cell? ⟨b0,7,none⟩ = some v7∧W.cell? ⟨b0,8,none⟩ = some v8 ∧
  W.cell? ⟨b1,0,none⟩ = some u0∧W.cell? ⟨b1,1,none⟩ = some u1∧W.cell? ⟨b1,2,none⟩ = some u2∧W.cell? ⟨b1,3,none⟩ = some u3∧W.cell? ⟨b1,4,none⟩ = some u4∧W.cell? ⟨b1,5,none⟩ = some u5∧W.cell? ⟨b1,6,none⟩ = some u6∧W.cell? ⟨b1,7,none⟩ = some u7∧W.cell? p0 = some r0∧W.cell? p1 = some r1∧W.cell? p2 = some r2 :=
 ⟨h.2 0 _ rfl,h.2 1 _ rfl,h.2 2 _ rfl,h.2 3 _ rfl,h.2 4 _ rfl,h.2 5 _ rfl,h.2 6 _ rfl,h.2 7 _ rfl,h.2 8 _ rfl,k.2 0 _ rfl,k.2 1 _ rfl,k.2 2 _ rfl,k.2 3 _ rfl,k.2 4 _ rfl,k.2 5 _ rfl,k.2 6 _ rfl,k.2 7 _ rfl,h0,h1,h2⟩
theorem s18 {W : World} {b0 b1 : Nat} {v0 v1 v2 v3 v4 v5 v6 v7 v8 u0 u1 u2 u3 u4 u5 u6 u7 r0 r1 r2 r3 : Value} {p0 p1 p2 p3 : Addr} (h : BoxAt W b0 [v0,v1,v2,v3,v4,v5,v6,v7,v8]) (k : BoxAt W b1 [u0,u1,u2,u3,u4,u5,u6,u7]) (h0 : W.cell? p0 = some r0) (h1 : W.cell? p1 = some r1) (h2 : W.cell? p2 = some r2) (h3 : W.cell? p3 = some r3) :
  W.cell? ⟨b0,0,none⟩ = some v0∧W.cell? ⟨b0,1,none⟩ = some v1∧W.cell? ⟨b0,2,none⟩ = some v2∧W.cell? ⟨b0,3,none⟩ = some v3∧W.cell? ⟨b0,4,none⟩ = some v4∧W.cell? ⟨b0,5,none⟩ = some v5∧W.cell? ⟨b0,6,none⟩ = some v6∧W.cell? ⟨b0,7,none⟩ = some v7∧W.cell? ⟨b0,8,none⟩ = some v8 ∧
  W.cell? ⟨b1,0,none⟩ = some u0∧W.cell? ⟨b1,1,none⟩ = some u1∧W.cell? ⟨b1,2,none⟩ = some u2∧W.cell? ⟨b1,3,none⟩ = some u3∧W.cell? ⟨b1,4,none⟩ = some u4∧W.cell? ⟨b1,5,none⟩ = some u5∧W.cell? ⟨b1,6,none⟩ = some u6∧W.cell? ⟨b1,7,none⟩ = some u7∧W.cell? p0 = some r0∧W.cell? p1 = some r1∧W.cell? p2 = some r2∧W.cell? p3 = some r3 :=
 ⟨h.2 0 _ rfl,h.2 1 _ rfl,h.2 2 _ rfl,h.2 3 _ rfl,h.2 4 _ rfl,h.2 5 _ rfl,h.2 6 _ rfl,h.2 7 _ rfl,h.2 8 _ rfl,k.2 0 _ rfl,k.2 1 _ rfl,k.2 2 _ rfl,k.2 3 _ rfl,k.2 4 _ rfl,k.2 5 _ rfl,k.2 6 _ rfl,k.2 7 _ rfl,h0,h1,h2,h3⟩

set_option maxRecDepth 100000 in
set_option maxHeartbeats 1000000 in
theorem agrees2 (c : Cd) (th pl : Int) (b : Bd) (dst src rc n tt : Int) (items index : List Itm) (iv xv : Value) (w : World) (hc : c.okW w) (hs : SmallP c) (hb : b.okW w) (hbs : b.slots.length≤1000) (hx : Ins.okW w ⟨2,dst,src,rc,n,tt,items,iv,index,xv⟩) (hf : fieldsB c th b pl ⟨2,dst,src,rc,n,tt,items,iv,index,xv⟩ = true) :
  Calls Tryd.prog 74 #[.agg #[c.rv,c.gv,c.tv,c.ev,c.cv,.int .i64 th,b.sv,b.cv,.int .i64 b.most],.int .i64 pl,.agg #[.int .i64 2,.int .i64 dst,.int .i64 src,.int .i64 rc,.int .i64 n,.int .i64 tt,iv,xv]] w fun e w'=>e = .returned (.bool (agreesB c th b pl ⟨2,dst,src,rc,n,tt,items,iv,index,xv⟩))∧Below w.heap.size w w':=by
 obtain ⟨a0,p0,a1,p1,a2,p2,a3,p3,a4,p4,e0,e1,e2,e3,e4⟩:=cd_open hc
 obtain ⟨a5,p5,e5⟩:=hb.2.1.form
 obtain ⟨a6,p6,e6⟩:=hb.2.2.form
 obtain ⟨a7,p7,e7⟩:=hx.2.1.form
 obtain ⟨a8,p8,e8⟩:=hx.2.2.form
 simp only at e7 e8
 subst e7 e8
 obtain ⟨kd,ed,hkd⟩:=isIn_nat (fields_d hf rfl)
 simp only at ed
 subst ed
 obtain ⟨sd,hd⟩ : ∃ sd,b.slots[kd]? = some sd:=⟨b.slots[kd],by simp [hkd]⟩
 have BB:=below2 w (.cells #[.slice a0 c.recs.length p0,.slice a1 c.globs.length p1,.slice a2 c.threads.length p2,.slice a3 c.sites.length p3,.slice a4 c.secs.length p4,.int .i64 th,.slice a5 b.slots.length p5,.slice a6 b.code.length p6,.int .i64 b.most] 110) (.cells #[.int .i64 2,.int .i64 kd,.int .i64 src,.int .i64 rc,.int .i64 n,.int .i64 tt,.slice a7 items.length p7,.slice a8 index.length p8] 58)
 have KL:=(BoxAt.new w #[.slice a0 c.recs.length p0,.slice a1 c.globs.length p1,.slice a2 c.threads.length p2,.slice a3 c.sites.length p3,.slice a4 c.secs.length p4,.int .i64 th,.slice a5 b.slots.length p5,.slice a6 b.code.length p6,.int .i64 b.most] 110).past (.cells #[.int .i64 2,.int .i64 kd,.int .i64 src,.int .i64 rc,.int .i64 n,.int .i64 tt,.slice a7 items.length p7,.slice a8 index.length p8] 58)
 have KX:=BoxAt.new (w.alloc (.cells #[.slice a0 c.recs.length p0,.slice a1 c.globs.length p1,.slice a2 c.threads.length p2,.slice a3 c.sites.length p3,.slice a4 c.secs.length p4,.int .i64 th,.slice a5 b.slots.length p5,.slice a6 b.code.length p6,.int .i64 b.most] 110)) #[.int .i64 2,.int .i64 kd,.int .i64 src,.int .i64 rc,.int .i64 n,.int .i64 tt,.slice a7 items.length p7,.slice a8 index.length p8] 58
 simp only [World.size_alloc] at KX
 have H:=fun W (h : Below (World.heap (World.alloc (w.alloc (.cells #[.slice a0 c.recs.length p0,.slice a1 c.globs.length p1,.slice a2 c.threads.length p2,.slice a3 c.sites.length p3,.slice a4 c.secs.length p4,.int .i64 th,.slice a5 b.slots.length p5,.slice a6 b.code.length p6,.int .i64 b.most] 110)) (.cells #[.int .i64 2,.int .i64 kd,.int .i64 src,.int .i64 rc,.int .i64 n,.int .i64 tt,.slice a7 items.length p7,.slice a8 index.length p8] 58))).size (World.alloc (w.alloc (.cells #[.slice a0 c.recs.length p0,.slice a1 c.globs.length p1,.slice a2 c.threads.length p2,.slice a3 c.sites.length p3,.slice a4 c.secs.length p4,.int .i64 th,.slice a5 b.slots.length p5,.slice a6 b.code.length p6,.int .i64 b.most] 110)) (.cells #[.int .i64 2,.int .i64 kd,.int .i64 src,.int .i64 rc,.int .i64 n,.int .i64 tt,.slice a7 items.length p7,.slice a8 index.length p8] 58)) W) k x kind rc' (hx : b.slots[k]? = some x)=>holds_any c.rv c.gv c.tv c.ev c.cv (.int .i64 th) b.sv b.cv (.int .i64 b.most) b.slots k x kind rc' false W (Locs.kept (Locs.kept hb.2.1 BB) h) (by omega) hx
 have D:=fun W=>place59_any n a1 c.globs.length p1 W
 cases h1 : isIn n c.globs.length
 ·have F : Hid (agreesB c th b pl ⟨2,kd,src,rc,n,tt,items,.slice a7 items.length p7,index,.slice a8 index.length p8⟩ = false):=hid (by show (isIn n c.globs.length && _) = false;rw [h1];rfl)
  rw [h1] at D
  rw [e0,e1,e2,e3,e4,e5,e6]
  clear e0 e1 e2 e3 e4 e5 e6 hc hb hx hf KL KX H h1
  replace D:=hid D
  replace BB:=hid BB
  go_enter Tryd.func74,Tryd.ntmps74
  go_wp2_with fail
  go_quiet ((go_at_call 77;exact Calls.quiet_of_same (D.out _)))
  go_wp2
  go_ret
  exact ⟨retB F.out.symm,below_drewN BB.out nq⟩
 ·obtain ⟨kn,rfl,hkn⟩:=isIn_nat h1
  obtain ⟨g,hg⟩ : ∃ g,c.globs[kn]? = some g:=⟨c.globs[kn],by simp [hkn]⟩
  obtain ⟨bg,og,cg,eg,hbg,c0,c1,c2⟩:=loc_cells hc.2.1 hg
  rw [e1] at eg
  cases eg
  have hkn' : (kn : Int) < (c.globs.length : Int):=by omega
  have C:=fun W h=>holds_any c.rv c.gv c.tv c.ev c.cv (.int .i64 th) b.sv b.cv (.int .i64 b.most) b.slots kd sd g.kind g.rc g.once W (Locs.kept (Locs.kept hb.2.1 BB) h) (by omega) hd
  have F : Hid (agreesB c th b pl ⟨2,kd,src,rc,kn,tt,items,.slice a7 items.length p7,index,.slice a8 index.length p8⟩ = (sd.kind == g.kind && sd.rc == g.rc)):=hid (by
   have eg : globAt c ⟨2,kd,src,rc,kn,tt,items,.slice a7 items.length p7,index,.slice a8 index.length p8⟩ = g:=by simp [globAt,List.getD,hg]
   show (isIn (kn : Int) c.globs.length && holdsB b kd (globAt c _).kind (globAt c _).rc) = _
   rw [eg,h1,holdsB_eq hd];rfl)
  rw [h1] at D
  rw [e0,e1,e2,e3,e4,e5,e6] at C ⊢
  clear e0 e1 e2 e3 e4 e5 e6 hc hb hx hf H h1
  generalize (sd.kind == g.kind && sd.rc == g.rc) = q2 at *
  replace D:=hid D
  replace C:=hid C
  replace BB:=hid BB
  have Q0:=hid c0
  have Q1:=hid c1
  have Q2:=hid c2
  have hz0:=hid (s14 KL.drew KX.drew ((BB.out.drew.cell (p:=⟨bg,og + kn * 3,none⟩) hbg).trans c0) ((BB.out.drew.cell (p:=⟨bg,og + kn * 3 + 1,none⟩) hbg).trans c1) ((BB.out.drew.cell (p:=⟨bg,og + kn * 3 + 2,none⟩) hbg).trans c2))
  replace KL:=hid KL
  replace KX:=hid KX
  go_enter Tryd.func74,Tryd.ntmps74
  go_wp2_with fail
  refine wp_region_held_drew (S:=fun (w' : World)=>w'.cell? ⟨w.heap.size,0,none⟩ = some (.slice a0 c.recs.length p0)∧w'.cell? ⟨w.heap.size,1,none⟩ = some (.slice (some ⟨bg,og,none⟩) c.globs.length p1)∧w'.cell? ⟨w.heap.size,2,none⟩ = some (.slice a2 c.threads.length p2)∧w'.cell? ⟨w.heap.size,3,none⟩ = some (.slice a3 c.sites.length p3)∧w'.cell? ⟨w.heap.size,4,none⟩ = some (.slice a4 c.secs.length p4)∧w'.cell? ⟨w.heap.size,5,none⟩ = some (.int .i64 th)∧w'.cell? ⟨w.heap.size,6,none⟩ = some (.slice a5 b.slots.length p5)∧w'.cell? ⟨w.heap.size,7,none⟩ = some (.slice a6 b.code.length p6)∧w'.cell? ⟨w.heap.size,8,none⟩ = some (.int .i64 b.most)∧w'.cell? ⟨w.heap.size + 1,0,none⟩ = some (.int .i64 2)∧w'.cell? ⟨w.heap.size + 1,1,none⟩ = some (.int .i64 kd)∧w'.cell? ⟨w.heap.size + 1,2,none⟩ = some (.int .i64 src)∧w'.cell? ⟨w.heap.size + 1,3,none⟩ = some (.int .i64 rc)∧w'.cell? ⟨w.heap.size + 1,4,none⟩ = some (.int .i64 kn)∧w'.cell? ⟨w.heap.size + 1,5,none⟩ = some (.int .i64 tt)∧w'.cell? ⟨w.heap.size + 1,6,none⟩ = some (.slice a7 items.length p7)∧w'.cell? ⟨w.heap.size + 1,7,none⟩ = some (.slice a8 index.length p8)∧w'.cell? ⟨bg,og + kn * 3,none⟩ = some (.int .i64 g.kind)∧w'.cell? ⟨bg,og + kn * 3 + 1,none⟩ = some (.int .i64 g.rc)∧w'.cell? ⟨bg,og + kn * 3 + 2,none⟩ = some (.bool g.once)) (by kernel_rfl) (hz0.out) (fun hHeld=>?_)
  refine wT 0 ⟨some 11,.fieldAddr 58 (.tmp 5) 4,0,"looker.go:96",#[],none⟩ hHeld ?_
  try simp only [Act.put,sA,sB,sC]
  refine wT 1 ⟨some 12,.load 3 (.tmp 11),3,"looker.go:96",#[⟨0,.data⟩],none⟩ hHeld ?_
  try simp only [Act.put,sA,sB,sC]
  refine wT 2 ⟨some 13,.fieldAddr 110 (.tmp 3) 0,0,"looker.go:96",#[],none⟩ hHeld ?_
  try simp only [Act.put,sA,sB,sC]
  refine wT 3 ⟨some 14,.fieldAddr 41 (.tmp 13) 1,0,"looker.go:96",#[⟨2,.data⟩],none⟩ hHeld ?_
  try simp only [Act.put,sA,sB,sC]
  refine wT 4 ⟨some 15,.load 36 (.tmp 14),36,"looker.go:96",#[⟨3,.data⟩],none⟩ hHeld ?_
  try simp only [Act.put,sA,sB,sC]
  refine wO 5 ⟨some 16,.call ⟨.value (.func 77),#[.tmp 12,.tmp 15],#[3,36]⟩,4,"looker.go:96",#[⟨1,.data⟩,⟨4,.data⟩],none⟩ (fun K' hK'=>?_)
  go_simp
  go_at_call 77
  refine Calls.mono (D.out _) ?_
  rintro e w9 ⟨rfl,rfl⟩
  refine hK'.out _ _ hHeld (fun hHeld=>?_)
  clear hK' K'
  try simp only [Act.put,sA,sB,sC]
  refine wT 6 ⟨some 17,.move (.tmp 16),4,"looker.go:96",#[⟨5,.data⟩,⟨5,.chain⟩],none⟩ hHeld ?_
  try simp only [Act.put,sA,sB,sC]
  refine wT 7 ⟨some 18,.load 110 (.tmp 3),110,"looker.go:96",#[⟨6,.guard⟩],some (6,true)⟩ hHeld ?_
  try simp only [Act.put,sA,sB,sC]
  refine wT 8 ⟨some 19,.fieldAddr 58 (.tmp 5) 1,0,"looker.go:96",#[⟨6,.guard⟩],some (6,true)⟩ hHeld ?_
  try simp only [Act.put,sA,sB,sC]
  refine wT 9 ⟨some 20,.load 3 (.tmp 19),3,"looker.go:96",#[⟨8,.data⟩,⟨6,.guard⟩],some (6,true)⟩ hHeld ?_
  try simp only [Act.put,sA,sB,sC]
  refine wT 10 ⟨some 21,.fieldAddr 110 (.tmp 3) 0,0,"looker.go:96",#[⟨6,.guard⟩],some (6,true)⟩ hHeld ?_
  try simp only [Act.put,sA,sB,sC]
  refine wT 11 ⟨some 22,.fieldAddr 41 (.tmp 21) 1,0,"looker.go:96",#[⟨10,.data⟩,⟨6,.guard⟩],some (6,true)⟩ hHeld ?_
  try simp only [Act.put,sA,sB,sC]
  refine wT 12 ⟨some 23,.load 36 (.tmp 22),36,"looker.go:96",#[⟨11,.data⟩,⟨6,.guard⟩],some (6,true)⟩ hHeld ?_
  try simp only [Act.put,sA,sB,sC]
  refine wT 13 ⟨some 24,.fieldAddr 58 (.tmp 5) 4,0,"looker.go:96",#[⟨6,.guard⟩],some (6,true)⟩ hHeld ?_
  try simp only [Act.put,sA,sB,sC]
  refine wT 14 ⟨some 25,.load 3 (.tmp 24),3,"looker.go:96",#[⟨13,.data⟩,⟨6,.guard⟩],some (6,true)⟩ hHeld ?_
  try simp only [Act.put,sA,sB,sC]
  refine wT 15 ⟨some 26,.indexAddr 36 (.tmp 23) (.tmp 25),0,"looker.go:96",#[⟨12,.data⟩,⟨14,.data⟩,⟨6,.guard⟩],some (6,true)⟩ hHeld ?_
  try simp only [Act.put,sA,sB,sC]
  refine wT 16 ⟨some 27,.load 60 (.tmp 26),60,"looker.go:96",#[⟨15,.data⟩,⟨6,.guard⟩],some (6,true)⟩ hHeld ?_
  try simp only [Act.put,sA,sB,sC]
  refine wO 17 ⟨some 28,.call ⟨.value (.func 83),#[.tmp 18,.tmp 20,.tmp 27],#[110,3,60]⟩,4,"looker.go:96",#[⟨7,.data⟩,⟨9,.data⟩,⟨16,.data⟩,⟨6,.chain⟩,⟨6,.guard⟩],some (6,true)⟩ (fun K' hK'=>?_)
  go_simp
  go_at_call 83
  refine Calls.mono (C.out _ (Below.refl _ _).drew) ?_
  rintro e w1 ⟨rfl,hb1⟩
  have B1:=hid (BB.out.drew.trans (hb1.mono BB.out.drew.size))
  have hz:=hid (s14 (KL.out.drew.kept hb1) (KX.out.drew.kept hb1) ((B1.out.cell (p:=⟨bg,og + kn * 3,none⟩) hbg).trans Q0.out) ((B1.out.cell (p:=⟨bg,og + kn * 3 + 1,none⟩) hbg).trans Q1.out) ((B1.out.cell (p:=⟨bg,og + kn * 3 + 2,none⟩) hbg).trans Q2.out))
  clear hb1
  refine hK'.out _ _ hz.out (fun hHeld=>?_)
  clear hK' K'
  try simp only [Act.put,sA,sB,sC]
  refine wT 18 ⟨some 29,.pick (.tmp 17) (.tmp 28) (.const (.bool false)),4,"looker.go:96",#[⟨6,.data⟩,⟨17,.data⟩],none⟩ hHeld ?_
  try simp only [Act.put,sA,sB,sC]
  refine wT 19 ⟨some 6,.assign (.tmp 29),4,"looker.go:96",#[⟨18,.data⟩,⟨17,.chain⟩,⟨0,.phase⟩,⟨1,.phase⟩,⟨2,.phase⟩,⟨3,.phase⟩,⟨4,.phase⟩,⟨5,.phase⟩,⟨6,.phase⟩,⟨7,.phase⟩,⟨8,.phase⟩,⟨9,.phase⟩,⟨10,.phase⟩,⟨11,.phase⟩,⟨12,.phase⟩,⟨13,.phase⟩,⟨14,.phase⟩,⟨15,.phase⟩,⟨16,.phase⟩,⟨17,.phase⟩,⟨18,.phase⟩],none⟩ hHeld ?_
  try simp only [Act.put,sA,sB,sC]
  refine wpAnyH_done (by kernel_rfl) ?_ _
  clear hHeld
  go_wp2
  go_ret
  exact ⟨retB F.out.symm,B1.out⟩

set_option maxRecDepth 100000 in
set_option maxHeartbeats 1000000 in
theorem agrees3 (c : Cd) (th pl : Int) (b : Bd) (dst src rc n tt : Int) (items index : List Itm) (iv xv : Value) (w : World) (hc : c.okW w) (hs : SmallP c) (hb : b.okW w) (hbs : b.slots.length≤1000) (hx : Ins.okW w ⟨3,dst,src,rc,n,tt,items,iv,index,xv⟩) (hf : fieldsB c th b pl ⟨3,dst,src,rc,n,tt,items,iv,index,xv⟩ = true) :
  Calls Tryd.prog 74 #[.agg #[c.rv,c.gv,c.tv,c.ev,c.cv,.int .i64 th,b.sv,b.cv,.int .i64 b.most],.int .i64 pl,.agg #[.int .i64 3,.int .i64 dst,.int .i64 src,.int .i64 rc,.int .i64 n,.int .i64 tt,iv,xv]] w fun e w'=>e = .returned (.bool (agreesB c th b pl ⟨3,dst,src,rc,n,tt,items,iv,index,xv⟩))∧Below w.heap.size w w':=by
 obtain ⟨a0,p0,a1,p1,a2,p2,a3,p3,a4,p4,e0,e1,e2,e3,e4⟩:=cd_open hc
 obtain ⟨a5,p5,e5⟩:=hb.2.1.form
 obtain ⟨a6,p6,e6⟩:=hb.2.2.form
 obtain ⟨a7,p7,e7⟩:=hx.2.1.form
 obtain ⟨a8,p8,e8⟩:=hx.2.2.form
 simp only at e7 e8
 subst e7 e8
 obtain ⟨kd,ed,hkd⟩:=isIn_nat (fields_d hf rfl)
 simp only at ed
 subst ed
 obtain ⟨sd,hd⟩ : ∃ sd,b.slots[kd]? = some sd:=⟨b.slots[kd],by simp [hkd]⟩
 obtain ⟨ks,es,hks⟩:=isIn_nat (fields_s hf rfl)
 simp only at es
 subst es
 obtain ⟨ss,hss⟩ : ∃ ss,b.slots[ks]? = some ss:=⟨b.slots[ks],by simp [hks]⟩
 obtain ⟨kr,er,hkr⟩:=isIn_nat (fields_r hf rfl)
 simp only at er
 subst er
 obtain ⟨r,hr⟩ : ∃ r,c.recs[kr]? = some r:=⟨c.recs[kr],by simp [hkr]⟩
 have BB:=below2 w (.cells #[.slice a0 c.recs.length p0,.slice a1 c.globs.length p1,.slice a2 c.threads.length p2,.slice a3 c.sites.length p3,.slice a4 c.secs.length p4,.int .i64 th,.slice a5 b.slots.length p5,.slice a6 b.code.length p6,.int .i64 b.most] 110) (.cells #[.int .i64 3,.int .i64 kd,.int .i64 ks,.int .i64 kr,.int .i64 n,.int .i64 tt,.slice a7 items.length p7,.slice a8 index.length p8] 58)
 have KL:=(BoxAt.new w #[.slice a0 c.recs.length p0,.slice a1 c.globs.length p1,.slice a2 c.threads.length p2,.slice a3 c.sites.length p3,.slice a4 c.secs.length p4,.int .i64 th,.slice a5 b.slots.length p5,.slice a6 b.code.length p6,.int .i64 b.most] 110).past (.cells #[.int .i64 3,.int .i64 kd,.int .i64 ks,.int .i64 kr,.int .i64 n,.int .i64 tt,.slice a7 items.length p7,.slice a8 index.length p8] 58)
 have KX:=BoxAt.new (w.alloc (.cells #[.slice a0 c.recs.length p0,.slice a1 c.globs.length p1,.slice a2 c.threads.length p2,.slice a3 c.sites.length p3,.slice a4 c.secs.length p4,.int .i64 th,.slice a5 b.slots.length p5,.slice a6 b.code.length p6,.int .i64 b.most] 110)) #[.int .i64 3,.int .i64 kd,.int .i64 ks,.int .i64 kr,.int .i64 n,.int .i64 tt,.slice a7 items.length p7,.slice a8 index.length p8] 58
 simp only [World.size_alloc] at KX
 have C:=fun W (h : Below (World.heap (World.alloc (w.alloc (.cells #[.slice a0 c.recs.length p0,.slice a1 c.globs.length p1,.slice a2 c.threads.length p2,.slice a3 c.sites.length p3,.slice a4 c.secs.length p4,.int .i64 th,.slice a5 b.slots.length p5,.slice a6 b.code.length p6,.int .i64 b.most] 110)) (.cells #[.int .i64 3,.int .i64 kd,.int .i64 ks,.int .i64 kr,.int .i64 n,.int .i64 tt,.slice a7 items.length p7,.slice a8 index.length p8] 58))).size (World.alloc (w.alloc (.cells #[.slice a0 c.recs.length p0,.slice a1 c.globs.length p1,.slice a2 c.threads.length p2,.slice a3 c.sites.length p3,.slice a4 c.secs.length p4,.int .i64 th,.slice a5 b.slots.length p5,.slice a6 b.code.length p6,.int .i64 b.most] 110)) (.cells #[.int .i64 3,.int .i64 kd,.int .i64 ks,.int .i64 kr,.int .i64 n,.int .i64 tt,.slice a7 items.length p7,.slice a8 index.length p8] 58)) W)=>hasField_any c.rv c.gv c.tv c.ev c.cv (.int .i64 th) b.sv b.cv (.int .i64 b.most) c.recs b.slots ks kr ss r 3 kd n tt a7 items.length p7 a8 index.length p8 W (Rls.kept (Rls.kept hc.1 BB) h) (Locs.kept (Locs.kept hb.2.1 BB) h) (by have:=hs.l1;omega) (by omega) hss hr
 have eh:=hasFieldB_eq (c:=c) (b:=b) (x:=⟨3,kd,ks,kr,n,tt,items,.slice a7 items.length p7,index,.slice a8 index.length p8⟩) rfl rfl hss hr
 cases h1 : ((ss.kind == 4 && ss.rc == (kr : Int)) && isIn n r.flds.length)
 ·have F : Hid (agreesB c th b pl ⟨3,kd,ks,kr,n,tt,items,.slice a7 items.length p7,index,.slice a8 index.length p8⟩ = false):=hid (by show (hasFieldB c b _ && _) = false;rw [eh,h1];rfl)
  rw [h1] at C
  rw [e0,e1,e2,e3,e4,e5,e6] at C ⊢
  clear e0 e1 e2 e3 e4 e5 e6 hc hb hx hf h1 eh
  replace C:=hid C
  replace BB:=hid BB
  have hz0:=hid (s14 KL.drew KX.drew (KL.drew.2 0 _ rfl) (KL.drew.2 0 _ rfl) (KL.drew.2 0 _ rfl))
  replace KL:=hid KL
  replace KX:=hid KX
  go_enter Tryd.func74,Tryd.ntmps74
  go_wp2_with fail
  refine wp_region_held_drew (S:=fun (w' : World)=>w'.cell? ⟨w.heap.size,0,none⟩ = some (.slice a0 c.recs.length p0)∧w'.cell? ⟨w.heap.size,1,none⟩ = some (.slice a1 c.globs.length p1)∧w'.cell? ⟨w.heap.size,2,none⟩ = some (.slice a2 c.threads.length p2)∧w'.cell? ⟨w.heap.size,3,none⟩ = some (.slice a3 c.sites.length p3)∧w'.cell? ⟨w.heap.size,4,none⟩ = some (.slice a4 c.secs.length p4)∧w'.cell? ⟨w.heap.size,5,none⟩ = some (.int .i64 th)∧w'.cell? ⟨w.heap.size,6,none⟩ = some (.slice a5 b.slots.length p5)∧w'.cell? ⟨w.heap.size,7,none⟩ = some (.slice a6 b.code.length p6)∧w'.cell? ⟨w.heap.size,8,none⟩ = some (.int .i64 b.most)∧w'.cell? ⟨w.heap.size + 1,0,none⟩ = some (.int .i64 3)∧w'.cell? ⟨w.heap.size + 1,1,none⟩ = some (.int .i64 kd)∧w'.cell? ⟨w.heap.size + 1,2,none⟩ = some (.int .i64 ks)∧w'.cell? ⟨w.heap.size + 1,3,none⟩ = some (.int .i64 kr)∧w'.cell? ⟨w.heap.size + 1,4,none⟩ = some (.int .i64 n)∧w'.cell? ⟨w.heap.size + 1,5,none⟩ = some (.int .i64 tt)∧w'.cell? ⟨w.heap.size + 1,6,none⟩ = some (.slice a7 items.length p7)∧w'.cell? ⟨w.heap.size + 1,7,none⟩ = some (.slice a8 index.length p8)∧w'.cell? ⟨w.heap.size,0,none⟩ = some (.slice a0 c.recs.length p0)∧w'.cell? ⟨w.heap.size,0,none⟩ = some (.slice a0 c.recs.length p0)∧w'.cell? ⟨w.heap.size,0,none⟩ = some (.slice a0 c.recs.length p0)) (by kernel_rfl) (hz0.out) (fun hHeld=>?_)
  refine wT 0 ⟨some 40,.load 110 (.tmp 3),110,"looker.go:100",#[],none⟩ hHeld ?_
  try simp only [Act.put,sA,sB,sC]
  refine wT 1 ⟨some 41,.load 58 (.tmp 5),58,"looker.go:100",#[],none⟩ hHeld ?_
  try simp only [Act.put,sA,sB,sC]
  refine wO 2 ⟨some 42,.call ⟨.value (.func 84),#[.tmp 40,.tmp 41],#[110,58]⟩,4,"looker.go:100",#[⟨0,.data⟩,⟨1,.data⟩],none⟩ (fun K' hK'=>?_)
  go_simp
  go_at_call 84
  refine Calls.mono (C.out _ (Below.refl _ _).drew) ?_
  rintro e w1 ⟨rfl,hb1⟩
  have B1:=hid (BB.out.drew.trans (hb1.mono BB.out.drew.size))
  have hz:=hid (s14 (KL.out.drew.kept hb1) (KX.out.drew.kept hb1) ((KL.out.drew.kept hb1).2 0 _ rfl) ((KL.out.drew.kept hb1).2 0 _ rfl) ((KL.out.drew.kept hb1).2 0 _ rfl))
  clear hb1
  refine hK'.out _ _ hz.out (fun hHeld=>?_)
  clear hK' K'
  try simp only [Act.put,sA,sB,sC]
  refine wT 3 ⟨some 43,.move (.tmp 42),4,"looker.go:100",#[⟨2,.data⟩,⟨2,.chain⟩],none⟩ hHeld ?_
  try simp only [Act.put,sA,sB,sC]
  refine wU 4 ⟨some 44,.load 110 (.tmp 3),110,"looker.go:100",#[⟨3,.guard⟩],some (3,true)⟩ hHeld ?_
  try simp only [Act.put,sA,sB,sC]
  refine wU 5 ⟨some 45,.fieldAddr 58 (.tmp 5) 1,0,"looker.go:100",#[⟨3,.guard⟩],some (3,true)⟩ hHeld ?_
  try simp only [Act.put,sA,sB,sC]
  refine wU 6 ⟨some 46,.load 3 (.tmp 45),3,"looker.go:100",#[⟨5,.data⟩,⟨3,.guard⟩],some (3,true)⟩ hHeld ?_
  try simp only [Act.put,sA,sB,sC]
  refine wU 7 ⟨some 47,.fieldAddr 110 (.tmp 3) 0,0,"looker.go:100",#[⟨3,.guard⟩],some (3,true)⟩ hHeld ?_
  try simp only [Act.put,sA,sB,sC]
  refine wU 8 ⟨some 48,.fieldAddr 41 (.tmp 47) 0,0,"looker.go:100",#[⟨7,.data⟩,⟨3,.guard⟩],some (3,true)⟩ hHeld ?_
  try simp only [Act.put,sA,sB,sC]
  refine wU 9 ⟨some 49,.load 35 (.tmp 48),35,"looker.go:100",#[⟨8,.data⟩,⟨3,.guard⟩],some (3,true)⟩ hHeld ?_
  try simp only [Act.put,sA,sB,sC]
  refine wU 10 ⟨some 50,.fieldAddr 58 (.tmp 5) 3,0,"looker.go:100",#[⟨3,.guard⟩],some (3,true)⟩ hHeld ?_
  try simp only [Act.put,sA,sB,sC]
  refine wU 11 ⟨some 51,.load 3 (.tmp 50),3,"looker.go:100",#[⟨10,.data⟩,⟨3,.guard⟩],some (3,true)⟩ hHeld ?_
  try simp only [Act.put,sA,sB,sC]
  refine wU 12 ⟨some 52,.indexAddr 35 (.tmp 49) (.tmp 51),0,"looker.go:100",#[⟨9,.data⟩,⟨11,.data⟩,⟨3,.guard⟩],some (3,true)⟩ hHeld ?_
  try simp only [Act.put,sA,sB,sC]
  refine wU 13 ⟨some 53,.load 36 (.tmp 52),36,"looker.go:100",#[⟨12,.data⟩,⟨3,.guard⟩],some (3,true)⟩ hHeld ?_
  try simp only [Act.put,sA,sB,sC]
  refine wU 14 ⟨some 54,.fieldAddr 58 (.tmp 5) 4,0,"looker.go:100",#[⟨3,.guard⟩],some (3,true)⟩ hHeld ?_
  try simp only [Act.put,sA,sB,sC]
  refine wU 15 ⟨some 55,.load 3 (.tmp 54),3,"looker.go:100",#[⟨14,.data⟩,⟨3,.guard⟩],some (3,true)⟩ hHeld ?_
  try simp only [Act.put,sA,sB,sC]
  refine wU 16 ⟨some 56,.indexAddr 36 (.tmp 53) (.tmp 55),0,"looker.go:100",#[⟨13,.data⟩,⟨15,.data⟩,⟨3,.guard⟩],some (3,true)⟩ hHeld ?_
  try simp only [Act.put,sA,sB,sC]
  refine wU 17 ⟨some 57,.load 60 (.tmp 56),60,"looker.go:100",#[⟨16,.data⟩,⟨3,.guard⟩],some (3,true)⟩ hHeld ?_
  try simp only [Act.put,sA,sB,sC]
  refine wO 18 ⟨some 58,.call ⟨.value (.func 83),#[.tmp 44,.tmp 46,.tmp 57],#[110,3,60]⟩,4,"looker.go:100",#[⟨4,.data⟩,⟨6,.data⟩,⟨17,.data⟩,⟨3,.chain⟩,⟨3,.guard⟩],some (3,true)⟩ (fun K' hK'=>?_)
  go_simp
  refine hK'.out _ _ hHeld (fun hHeld=>?_)
  clear hK' K'
  try simp only [Act.put,sA,sB,sC]
  refine wT 19 ⟨some 59,.pick (.tmp 43) (.tmp 58) (.const (.bool false)),4,"looker.go:100",#[⟨3,.data⟩,⟨18,.data⟩],none⟩ hHeld ?_
  try simp only [Act.put,sA,sB,sC]
  refine wT 20 ⟨some 6,.assign (.tmp 59),4,"looker.go:100",#[⟨19,.data⟩,⟨18,.chain⟩,⟨0,.phase⟩,⟨1,.phase⟩,⟨2,.phase⟩,⟨3,.phase⟩,⟨4,.phase⟩,⟨5,.phase⟩,⟨6,.phase⟩,⟨7,.phase⟩,⟨8,.phase⟩,⟨9,.phase⟩,⟨10,.phase⟩,⟨11,.phase⟩,⟨12,.phase⟩,⟨13,.phase⟩,⟨14,.phase⟩,⟨15,.phase⟩,⟨16,.phase⟩,⟨17,.phase⟩,⟨18,.phase⟩,⟨19,.phase⟩],none⟩ hHeld ?_
  try simp only [Act.put,sA,sB,sC]
  refine wpAnyH_done (by kernel_rfl) ?_ _
  clear hHeld
  go_wp2
  go_ret
  exact ⟨retB F.out.symm,B1.out⟩
 ·have h2 : isIn n r.flds.length = true:=by rw [Bool.and_eq_true] at h1;exact h1.2
  obtain ⟨kn,rfl,hkn⟩:=isIn_nat h2
  obtain ⟨f,hff⟩ : ∃ f,r.flds[kn]? = some f:=⟨r.flds[kn],by simp [hkn]⟩
  obtain ⟨br,or,cr,er,hbr,c0,hfl⟩:=rl_cells hc.1 hr
  rw [e0] at er
  cases er
  obtain ⟨bf,of,cf,ef,hbf,d0,d1,d2⟩:=loc_cells hfl hff
  rw [ef] at c0
  have hkn' : (kn : Int) < (r.flds.length : Int):=by omega
  have hkr' : (kr : Int) < (c.recs.length : Int):=by omega
  have C2:=fun W h=>holds_any c.rv c.gv c.tv c.ev c.cv (.int .i64 th) b.sv b.cv (.int .i64 b.most) b.slots kd sd f.kind f.rc f.once W (Locs.kept (Locs.kept hb.2.1 BB) h) (by omega) hd
  have F : Hid (agreesB c th b pl ⟨3,kd,ks,kr,kn,tt,items,.slice a7 items.length p7,index,.slice a8 index.length p8⟩ = (sd.kind == f.kind && sd.rc == f.rc)):=hid (by
   have eg : fieldAt c ⟨3,kd,ks,kr,kn,tt,items,.slice a7 items.length p7,index,.slice a8 index.length p8⟩ = f:=by simp [fieldAt,List.getD,hr,hff]
   show (hasFieldB c b _ && holdsB b kd (fieldAt c _).kind (fieldAt c _).rc) = _
   rw [eg,eh,h1,holdsB_eq hd];rfl)
  rw [h1] at C
  rw [e0,e1,e2,e3,e4,e5,e6] at C C2 ⊢
  clear e0 e1 e2 e3 e4 e5 e6 hc hb hx hf h1 eh h2 hfl ef
  generalize (sd.kind == f.kind && sd.rc == f.rc) = q2 at *
  replace C:=hid C
  replace C2:=hid C2
  replace BB:=hid BB
  have Q0:=hid c0
  have Q1:=hid d0
  have Q2:=hid d1
  have Q3:=hid d2
  have hz0:=hid (s18 KL.drew KX.drew ((BB.out.drew.cell (p:=⟨br,or + kr,none⟩) hbr).trans c0) ((BB.out.drew.cell (p:=⟨bf,of + kn * 3,none⟩) hbf).trans d0) ((BB.out.drew.cell (p:=⟨bf,of + kn * 3 + 1,none⟩) hbf).trans d1) ((BB.out.drew.cell (p:=⟨bf,of + kn * 3 + 2,none⟩) hbf).trans d2))
  replace KL:=hid KL
  replace KX:=hid KX
  go_enter Tryd.func74,Tryd.ntmps74
  go_wp2_with fail
  refine wp_region_held_drew (S:=fun (w' : World)=>w'.cell? ⟨w.heap.size,0,none⟩ = some (.slice (some ⟨br,or,none⟩) c.recs.length p0)∧w'.cell? ⟨w.heap.size,1,none⟩ = some (.slice a1 c.globs.length p1)∧w'.cell? ⟨w.heap.size,2,none⟩ = some (.slice a2 c.threads.length p2)∧w'.cell? ⟨w.heap.size,3,none⟩ = some (.slice a3 c.sites.length p3)∧w'.cell? ⟨w.heap.size,4,none⟩ = some (.slice a4 c.secs.length p4)∧w'.cell? ⟨w.heap.size,5,none⟩ = some (.int .i64 th)∧w'.cell? ⟨w.heap.size,6,none⟩ = some (.slice a5 b.slots.length p5)∧w'.cell? ⟨w.heap.size,7,none⟩ = some (.slice a6 b.code.length p6)∧w'.cell? ⟨w.heap.size,8,none⟩ = some (.int .i64 b.most)∧w'.cell? ⟨w.heap.size + 1,0,none⟩ = some (.int .i64 3)∧w'.cell? ⟨w.heap.size + 1,1,none⟩ = some (.int .i64 kd)∧w'.cell? ⟨w.heap.size + 1,2,none⟩ = some (.int .i64 ks)∧w'.cell? ⟨w.heap.size + 1,3,none⟩ = some (.int .i64 kr)∧w'.cell? ⟨w.heap.size + 1,4,none⟩ = some (.int .i64 kn)∧w'.cell? ⟨w.heap.size + 1,5,none⟩ = some (.int .i64 tt)∧w'.cell? ⟨w.heap.size + 1,6,none⟩ = some (.slice a7 items.length p7)∧w'.cell? ⟨w.heap.size + 1,7,none⟩ = some (.slice a8 index.length p8)∧w'.cell? ⟨br,or + kr,none⟩ = some (.slice (some ⟨bf,of,none⟩) r.flds.length cf)∧w'.cell? ⟨bf,of + kn * 3,none⟩ = some (.int .i64 f.kind)∧w'.cell? ⟨bf,of + kn * 3 + 1,none⟩ = some (.int .i64 f.rc)∧w'.cell? ⟨bf,of + kn * 3 + 2,none⟩ = some (.bool f.once)) (by kernel_rfl) (hz0.out) (fun hHeld=>?_)
  refine wT 0 ⟨some 40,.load 110 (.tmp 3),110,"looker.go:100",#[],none⟩ hHeld ?_
  try simp only [Act.put,sA,sB,sC]
  refine wT 1 ⟨some 41,.load 58 (.tmp 5),58,"looker.go:100",#[],none⟩ hHeld ?_
  try simp only [Act.put,sA,sB,sC]
  refine wO 2 ⟨some 42,.call ⟨.value (.func 84),#[.tmp 40,.tmp 41],#[110,58]⟩,4,"looker.go:100",#[⟨0,.data⟩,⟨1,.data⟩],none⟩ (fun K' hK'=>?_)
  go_simp
  go_at_call 84
  refine Calls.mono (C.out _ (Below.refl _ _).drew) ?_
  rintro e w1 ⟨rfl,hb1⟩
  have B1:=hid (BB.out.drew.trans (hb1.mono BB.out.drew.size))
  replace KL:=hid (KL.out.drew.kept hb1)
  replace KX:=hid (KX.out.drew.kept hb1)
  replace hb1:=hid hb1
  have hz:=hid (s18 KL.out KX.out ((B1.out.cell (p:=⟨br,or + kr,none⟩) hbr).trans Q0.out) ((B1.out.cell (p:=⟨bf,of + kn * 3,none⟩) hbf).trans Q1.out) ((B1.out.cell (p:=⟨bf,of + kn * 3 + 1,none⟩) hbf).trans Q2.out) ((B1.out.cell (p:=⟨bf,of + kn * 3 + 2,none⟩) hbf).trans Q3.out))
  refine hK'.out _ _ hz.out (fun hHeld=>?_)
  clear hK' K'
  try simp only [Act.put,sA,sB,sC]
  refine wT 3 ⟨some 43,.move (.tmp 42),4,"looker.go:100",#[⟨2,.data⟩,⟨2,.chain⟩],none⟩ hHeld ?_
  try simp only [Act.put,sA,sB,sC]
  refine wT 4 ⟨some 44,.load 110 (.tmp 3),110,"looker.go:100",#[⟨3,.guard⟩],some (3,true)⟩ hHeld ?_
  try simp only [Act.put,sA,sB,sC]
  refine wT 5 ⟨some 45,.fieldAddr 58 (.tmp 5) 1,0,"looker.go:100",#[⟨3,.guard⟩],some (3,true)⟩ hHeld ?_
  try simp only [Act.put,sA,sB,sC]
  refine wT 6 ⟨some 46,.load 3 (.tmp 45),3,"looker.go:100",#[⟨5,.data⟩,⟨3,.guard⟩],some (3,true)⟩ hHeld ?_
  try simp only [Act.put,sA,sB,sC]
  refine wT 7 ⟨some 47,.fieldAddr 110 (.tmp 3) 0,0,"looker.go:100",#[⟨3,.guard⟩],some (3,true)⟩ hHeld ?_
  try simp only [Act.put,sA,sB,sC]
  refine wT 8 ⟨some 48,.fieldAddr 41 (.tmp 47) 0,0,"looker.go:100",#[⟨7,.data⟩,⟨3,.guard⟩],some (3,true)⟩ hHeld ?_
  try simp only [Act.put,sA,sB,sC]
  refine wT 9 ⟨some 49,.load 35 (.tmp 48),35,"looker.go:100",#[⟨8,.data⟩,⟨3,.guard⟩],some (3,true)⟩ hHeld ?_
  try simp only [Act.put,sA,sB,sC]
  refine wT 10 ⟨some 50,.fieldAddr 58 (.tmp 5) 3,0,"looker.go:100",#[⟨3,.guard⟩],some (3,true)⟩ hHeld ?_
  try simp only [Act.put,sA,sB,sC]
  refine wT 11 ⟨some 51,.load 3 (.tmp 50),3,"looker.go:100",#[⟨10,.data⟩,⟨3,.guard⟩],some (3,true)⟩ hHeld ?_
  try simp only [Act.put,sA,sB,sC]
  refine wT 12 ⟨some 52,.indexAddr 35 (.tmp 49) (.tmp 51),0,"looker.go:100",#[⟨9,.data⟩,⟨11,.data⟩,⟨3,.guard⟩],some (3,true)⟩ hHeld ?_
  try simp only [Act.put,sA,sB,sC]
  refine wT 13 ⟨some 53,.load 36 (.tmp 52),36,"looker.go:100",#[⟨12,.data⟩,⟨3,.guard⟩],some (3,true)⟩ hHeld ?_
  try simp only [Act.put,sA,sB,sC]
  refine wT 14 ⟨some 54,.fieldAddr 58 (.tmp 5) 4,0,"looker.go:100",#[⟨3,.guard⟩],some (3,true)⟩ hHeld ?_
  try simp only [Act.put,sA,sB,sC]
  refine wT 15 ⟨some 55,.load 3 (.tmp 54),3,"looker.go:100",#[⟨14,.data⟩,⟨3,.guard⟩],some (3,true)⟩ hHeld ?_
  try simp only [Act.put,sA,sB,sC]
  refine wT 16 ⟨some 56,.indexAddr 36 (.tmp 53) (.tmp 55),0,"looker.go:100",#[⟨13,.data⟩,⟨15,.data⟩,⟨3,.guard⟩],some (3,true)⟩ hHeld ?_
  try simp only [Act.put,sA,sB,sC]
  refine wT 17 ⟨some 57,.load 60 (.tmp 56),60,"looker.go:100",#[⟨16,.data⟩,⟨3,.guard⟩],some (3,true)⟩ hHeld ?_
  try simp only [Act.put,sA,sB,sC]
  refine wO 18 ⟨some 58,.call ⟨.value (.func 83),#[.tmp 44,.tmp 46,.tmp 57],#[110,3,60]⟩,4,"looker.go:100",#[⟨4,.data⟩,⟨6,.data⟩,⟨17,.data⟩,⟨3,.chain⟩,⟨3,.guard⟩],some (3,true)⟩ (fun K' hK'=>?_)
  go_simp
  go_at_call 83
  refine Calls.mono (C2.out _ ((Below.refl _ _).drew.trans (hb1.out.mono (Below.refl 0 _).drew.size))) ?_
  rintro e w2 ⟨rfl,hb2⟩
  have B2:=hid (B1.out.trans (hb2.mono B1.out.size))
  replace KL:=hid (KL.out.kept hb2)
  replace KX:=hid (KX.out.kept hb2)
  clear hb2
  have hz:=hid (s18 KL.out KX.out ((B2.out.cell (p:=⟨br,or + kr,none⟩) hbr).trans Q0.out) ((B2.out.cell (p:=⟨bf,of + kn * 3,none⟩) hbf).trans Q1.out) ((B2.out.cell (p:=⟨bf,of + kn * 3 + 1,none⟩) hbf).trans Q2.out) ((B2.out.cell (p:=⟨bf,of + kn * 3 + 2,none⟩) hbf).trans Q3.out))
  refine hK'.out _ _ hz.out (fun hHeld=>?_)
  clear hK' K'
  try simp only [Act.put,sA,sB,sC]
  refine wT 19 ⟨some 59,.pick (.tmp 43) (.tmp 58) (.const (.bool false)),4,"looker.go:100",#[⟨3,.data⟩,⟨18,.data⟩],none⟩ hHeld ?_
  try simp only [Act.put,sA,sB,sC]
  refine wT 20 ⟨some 6,.assign (.tmp 59),4,"looker.go:100",#[⟨19,.data⟩,⟨18,.chain⟩,⟨0,.phase⟩,⟨1,.phase⟩,⟨2,.phase⟩,⟨3,.phase⟩,⟨4,.phase⟩,⟨5,.phase⟩,⟨6,.phase⟩,⟨7,.phase⟩,⟨8,.phase⟩,⟨9,.phase⟩,⟨10,.phase⟩,⟨11,.phase⟩,⟨12,.phase⟩,⟨13,.phase⟩,⟨14,.phase⟩,⟨15,.phase⟩,⟨16,.phase⟩,⟨17,.phase⟩,⟨18,.phase⟩,⟨19,.phase⟩],none⟩ hHeld ?_
  try simp only [Act.put,sA,sB,sC]
  refine wpAnyH_done (by kernel_rfl) ?_ _
  clear hHeld
  go_wp2
  go_ret
  exact ⟨retB F.out.symm,B2.out⟩

set_option maxRecDepth 100000 in
set_option maxHeartbeats 1000000 in
theorem agrees15 (c : Cd) (th pl : Int) (b : Bd) (dst src rc n tt : Int) (items index : List Itm) (iv xv : Value) (w : World) (hc : c.okW w) (hs : SmallP c) (hb : b.okW w) (hbs : b.slots.length≤1000) (hx : Ins.okW w ⟨15,dst,src,rc,n,tt,items,iv,index,xv⟩) (hf : fieldsB c th b pl ⟨15,dst,src,rc,n,tt,items,iv,index,xv⟩ = true) :
  Calls Tryd.prog 74 #[.agg #[c.rv,c.gv,c.tv,c.ev,c.cv,.int .i64 th,b.sv,b.cv,.int .i64 b.most],.int .i64 pl,.agg #[.int .i64 15,.int .i64 dst,.int .i64 src,.int .i64 rc,.int .i64 n,.int .i64 tt,iv,xv]] w fun e w'=>e = .returned (.bool (agreesB c th b pl ⟨15,dst,src,rc,n,tt,items,iv,index,xv⟩))∧Below w.heap.size w w':=by
 obtain ⟨a0,p0,a1,p1,a2,p2,a3,p3,a4,p4,e0,e1,e2,e3,e4⟩:=cd_open hc
 obtain ⟨a5,p5,e5⟩:=hb.2.1.form
 obtain ⟨a6,p6,e6⟩:=hb.2.2.form
 obtain ⟨a7,p7,e7⟩:=hx.2.1.form
 obtain ⟨a8,p8,e8⟩:=hx.2.2.form
 simp only at e7 e8
 subst e7 e8
 have BB:=below2 w (.cells #[.slice a0 c.recs.length p0,.slice a1 c.globs.length p1,.slice a2 c.threads.length p2,.slice a3 c.sites.length p3,.slice a4 c.secs.length p4,.int .i64 th,.slice a5 b.slots.length p5,.slice a6 b.code.length p6,.int .i64 b.most] 110) (.cells #[.int .i64 15,.int .i64 dst,.int .i64 src,.int .i64 rc,.int .i64 n,.int .i64 tt,.slice a7 items.length p7,.slice a8 index.length p8] 58)
 have KL:=(BoxAt.new w #[.slice a0 c.recs.length p0,.slice a1 c.globs.length p1,.slice a2 c.threads.length p2,.slice a3 c.sites.length p3,.slice a4 c.secs.length p4,.int .i64 th,.slice a5 b.slots.length p5,.slice a6 b.code.length p6,.int .i64 b.most] 110).past (.cells #[.int .i64 15,.int .i64 dst,.int .i64 src,.int .i64 rc,.int .i64 n,.int .i64 tt,.slice a7 items.length p7,.slice a8 index.length p8] 58)
 have KX:=BoxAt.new (w.alloc (.cells #[.slice a0 c.recs.length p0,.slice a1 c.globs.length p1,.slice a2 c.threads.length p2,.slice a3 c.sites.length p3,.slice a4 c.secs.length p4,.int .i64 th,.slice a5 b.slots.length p5,.slice a6 b.code.length p6,.int .i64 b.most] 110)) #[.int .i64 15,.int .i64 dst,.int .i64 src,.int .i64 rc,.int .i64 n,.int .i64 tt,.slice a7 items.length p7,.slice a8 index.length p8] 58
 simp only [World.size_alloc] at KX
 have D:=fun W=>place68_any n a4 c.secs.length p4 W
 cases h1 : isIn n c.secs.length
 ·have F : Hid (agreesB c th b pl ⟨15,dst,src,rc,n,tt,items,.slice a7 items.length p7,index,.slice a8 index.length p8⟩ = false):=hid (by show (isIn n c.secs.length && _) = false;rw [h1];rfl)
  rw [h1] at D
  rw [e0,e1,e2,e3,e4,e5,e6]
  clear e0 e1 e2 e3 e4 e5 e6 hc hb hx hf KL KX h1
  replace D:=hid D
  replace BB:=hid BB
  go_enter Tryd.func74,Tryd.ntmps74
  go_wp2_with fail
  go_quiet ((go_at_call 86;exact Calls.quiet_of_same (D.out _)))
  go_wp2
  go_ret
  exact ⟨retB F.out.symm,below_drewN BB.out nq⟩
 ·obtain ⟨kn,rfl,hkn⟩:=isIn_nat h1
  obtain ⟨g,hg⟩ : ∃ g,c.secs[kn]? = some g:=⟨c.secs[kn],by simp [hkn]⟩
  obtain ⟨bg,og,cg,eg,hbg,c0,c1,c2⟩:=sec_cells hc.2.2.2.2 hg
  rw [e4] at eg
  cases eg
  have hkn' : (kn : Int) < (c.secs.length : Int):=by omega
  have F : Hid (agreesB c th b pl ⟨15,dst,src,rc,kn,tt,items,.slice a7 items.length p7,index,.slice a8 index.length p8⟩ = (g.th == th && g.fr == pl)):=hid (by
   show (isIn (kn : Int) c.secs.length && ((c.secs.getD (kn : Int).toNat Sec.z).th == th && (c.secs.getD (kn : Int).toNat Sec.z).fr == pl)) = _
   rw [h1,Int.toNat_natCast,show c.secs.getD kn Sec.z = g by simp [List.getD,hg]];rfl)
  rw [h1] at D
  rw [e0,e1,e2,e3,e4,e5,e6]
  clear e0 e1 e2 e3 e4 e5 e6 hc hb hx hf h1 KL KX
  replace D:=hid D
  replace BB:=hid BB
  obtain ⟨g0,g1,g2⟩:=g
  simp only at c0 c1 c2 F
  cases h2 : (g0 == th)
  ·rw [h2] at F
   go_enter Tryd.func74,Tryd.ntmps74
   go_wp2_with fail
   go_quiet ((go_at_call 86;exact Calls.quiet_of_same (D.out _)))
   go_wp2
   go_ret
   exact ⟨retB (by rw [F.out];simp),below_drewN BB.out nq⟩
  ·rw [h2] at F
   go_enter Tryd.func74,Tryd.ntmps74
   go_wp2_with fail
   go_quiet ((go_at_call 86;exact Calls.quiet_of_same (D.out _)))
   go_wp2
   go_ret
   exact ⟨retB (by rw [F.out];simp),below_drewN BB.out nq⟩

set_option maxRecDepth 100000 in
set_option maxHeartbeats 1000000 in
theorem agrees16 (c : Cd) (th pl : Int) (b : Bd) (dst src rc n tt : Int) (items index : List Itm) (iv xv : Value) (w : World) (hc : c.okW w) (hs : SmallP c) (hb : b.okW w) (hbs : b.slots.length≤1000) (hx : Ins.okW w ⟨16,dst,src,rc,n,tt,items,iv,index,xv⟩) (hf : fieldsB c th b pl ⟨16,dst,src,rc,n,tt,items,iv,index,xv⟩ = true) :
  Calls Tryd.prog 74 #[.agg #[c.rv,c.gv,c.tv,c.ev,c.cv,.int .i64 th,b.sv,b.cv,.int .i64 b.most],.int .i64 pl,.agg #[.int .i64 16,.int .i64 dst,.int .i64 src,.int .i64 rc,.int .i64 n,.int .i64 tt,iv,xv]] w fun e w'=>e = .returned (.bool (agreesB c th b pl ⟨16,dst,src,rc,n,tt,items,iv,index,xv⟩))∧Below w.heap.size w w':=by
 obtain ⟨a0,p0,a1,p1,a2,p2,a3,p3,a4,p4,e0,e1,e2,e3,e4⟩:=cd_open hc
 obtain ⟨a5,p5,e5⟩:=hb.2.1.form
 obtain ⟨a6,p6,e6⟩:=hb.2.2.form
 obtain ⟨a7,p7,e7⟩:=hx.2.1.form
 obtain ⟨a8,p8,e8⟩:=hx.2.2.form
 simp only at e7 e8
 subst e7 e8
 have BB:=below2 w (.cells #[.slice a0 c.recs.length p0,.slice a1 c.globs.length p1,.slice a2 c.threads.length p2,.slice a3 c.sites.length p3,.slice a4 c.secs.length p4,.int .i64 th,.slice a5 b.slots.length p5,.slice a6 b.code.length p6,.int .i64 b.most] 110) (.cells #[.int .i64 16,.int .i64 dst,.int .i64 src,.int .i64 rc,.int .i64 n,.int .i64 tt,.slice a7 items.length p7,.slice a8 index.length p8] 58)
 have KL:=(BoxAt.new w #[.slice a0 c.recs.length p0,.slice a1 c.globs.length p1,.slice a2 c.threads.length p2,.slice a3 c.sites.length p3,.slice a4 c.secs.length p4,.int .i64 th,.slice a5 b.slots.length p5,.slice a6 b.code.length p6,.int .i64 b.most] 110).past (.cells #[.int .i64 16,.int .i64 dst,.int .i64 src,.int .i64 rc,.int .i64 n,.int .i64 tt,.slice a7 items.length p7,.slice a8 index.length p8] 58)
 have KX:=BoxAt.new (w.alloc (.cells #[.slice a0 c.recs.length p0,.slice a1 c.globs.length p1,.slice a2 c.threads.length p2,.slice a3 c.sites.length p3,.slice a4 c.secs.length p4,.int .i64 th,.slice a5 b.slots.length p5,.slice a6 b.code.length p6,.int .i64 b.most] 110)) #[.int .i64 16,.int .i64 dst,.int .i64 src,.int .i64 rc,.int .i64 n,.int .i64 tt,.slice a7 items.length p7,.slice a8 index.length p8] 58
 simp only [World.size_alloc] at KX
 have D:=fun W=>place68_any n a4 c.secs.length p4 W
 cases h1 : isIn n c.secs.length
 ·have F : Hid (agreesB c th b pl ⟨16,dst,src,rc,n,tt,items,.slice a7 items.length p7,index,.slice a8 index.length p8⟩ = false):=hid (by show (isIn n c.secs.length && _) = false;rw [h1];rfl)
  rw [h1] at D
  rw [e0,e1,e2,e3,e4,e5,e6]
  clear e0 e1 e2 e3 e4 e5 e6 hc hb hx hf KL KX h1
  replace D:=hid D
  replace BB:=hid BB
  go_enter Tryd.func74,Tryd.ntmps74
  go_wp2_with fail
  go_quiet ((go_at_call 86;exact Calls.quiet_of_same (D.out _)))
  go_wp2
  go_ret
  exact ⟨retB F.out.symm,below_drewN BB.out nq⟩
 ·obtain ⟨kn,rfl,hkn⟩:=isIn_nat h1
  obtain ⟨g,hg⟩ : ∃ g,c.secs[kn]? = some g:=⟨c.secs[kn],by simp [hkn]⟩
  obtain ⟨bg,og,cg,eg,hbg,c0,c1,c2⟩:=sec_cells hc.2.2.2.2 hg
  rw [e4] at eg
  cases eg
  have hkn' : (kn : Int) < (c.secs.length : Int):=by omega
  have F : Hid (agreesB c th b pl ⟨16,dst,src,rc,kn,tt,items,.slice a7 items.length p7,index,.slice a8 index.length p8⟩ = (g.th == th && g.to == pl)):=hid (by
   show (isIn (kn : Int) c.secs.length && ((c.secs.getD (kn : Int).toNat Sec.z).th == th && (c.secs.getD (kn : Int).toNat Sec.z).to == pl)) = _
   rw [h1,Int.toNat_natCast,show c.secs.getD kn Sec.z = g by simp [List.getD,hg]];rfl)
  rw [h1] at D
  rw [e0,e1,e2,e3,e4,e5,e6]
  clear e0 e1 e2 e3 e4 e5 e6 hc hb hx hf h1 KL KX
  replace D:=hid D
  replace BB:=hid BB
  obtain ⟨g0,g1,g2⟩:=g
  simp only at c0 c1 c2 F
  cases h2 : (g0 == th)
  ·rw [h2] at F
   go_enter Tryd.func74,Tryd.ntmps74
   go_wp2_with fail
   go_quiet ((go_at_call 86;exact Calls.quiet_of_same (D.out _)))
   go_wp2
   go_ret
   exact ⟨retB (by rw [F.out];simp),below_drewN BB.out nq⟩
  ·rw [h2] at F
   go_enter Tryd.func74,Tryd.ntmps74
   go_wp2_with fail
   go_quiet ((go_at_call 86;exact Calls.quiet_of_same (D.out _)))
   go_wp2
   go_ret
   exact ⟨retB (by rw [F.out];simp),below_drewN BB.out nq⟩

set_option maxRecDepth 100000 in
set_option maxHeartbeats 1000000 in
theorem agreesO (c : Cd) (th pl : Int) (b : Bd) (op dst src rc n tt : Int) (items index : List Itm) (iv xv : Value) (w : World) (hc : c.okW w) (hs : SmallP c) (hb : b.okW w) (hbs : b.slots.length≤1000) (hx : Ins.okW w ⟨op,dst,src,rc,n,tt,items,iv,index,xv⟩) (ho : op = 1∨op = 11∨op = 12∨op = 13∨op = 14∨op = 17) (hf : fieldsB c th b pl ⟨op,dst,src,rc,n,tt,items,iv,index,xv⟩ = true) :
  Calls Tryd.prog 74 #[.agg #[c.rv,c.gv,c.tv,c.ev,c.cv,.int .i64 th,b.sv,b.cv,.int .i64 b.most],.int .i64 pl,.agg #[.int .i64 op,.int .i64 dst,.int .i64 src,.int .i64 rc,.int .i64 n,.int .i64 tt,iv,xv]] w fun e w'=>e = .returned (.bool (agreesB c th b pl ⟨op,dst,src,rc,n,tt,items,iv,index,xv⟩))∧Below w.heap.size w w':=by
 obtain ⟨a0,p0,a1,p1,a2,p2,a3,p3,a4,p4,e0,e1,e2,e3,e4⟩:=cd_open hc
 obtain ⟨a5,p5,e5⟩:=hb.2.1.form
 obtain ⟨a6,p6,e6⟩:=hb.2.2.form
 obtain ⟨a7,p7,e7⟩:=hx.2.1.form
 obtain ⟨a8,p8,e8⟩:=hx.2.2.form
 simp only at e7 e8
 subst e7 e8
 have BB:=below2 w (.cells #[.slice a0 c.recs.length p0,.slice a1 c.globs.length p1,.slice a2 c.threads.length p2,.slice a3 c.sites.length p3,.slice a4 c.secs.length p4,.int .i64 th,.slice a5 b.slots.length p5,.slice a6 b.code.length p6,.int .i64 b.most] 110) (.cells #[.int .i64 op,.int .i64 dst,.int .i64 src,.int .i64 rc,.int .i64 n,.int .i64 tt,.slice a7 items.length p7,.slice a8 index.length p8] 58)
 have KL:=(BoxAt.new w #[.slice a0 c.recs.length p0,.slice a1 c.globs.length p1,.slice a2 c.threads.length p2,.slice a3 c.sites.length p3,.slice a4 c.secs.length p4,.int .i64 th,.slice a5 b.slots.length p5,.slice a6 b.code.length p6,.int .i64 b.most] 110).past (.cells #[.int .i64 op,.int .i64 dst,.int .i64 src,.int .i64 rc,.int .i64 n,.int .i64 tt,.slice a7 items.length p7,.slice a8 index.length p8] 58)
 have KX:=BoxAt.new (w.alloc (.cells #[.slice a0 c.recs.length p0,.slice a1 c.globs.length p1,.slice a2 c.threads.length p2,.slice a3 c.sites.length p3,.slice a4 c.secs.length p4,.int .i64 th,.slice a5 b.slots.length p5,.slice a6 b.code.length p6,.int .i64 b.most] 110)) #[.int .i64 op,.int .i64 dst,.int .i64 src,.int .i64 rc,.int .i64 n,.int .i64 tt,.slice a7 items.length p7,.slice a8 index.length p8] 58
 simp only [World.size_alloc] at KX
 rw [e0,e1,e2,e3,e4,e5,e6]
 have F : Hid (agreesB c th b pl ⟨op,dst,src,rc,n,tt,items,.slice a7 items.length p7,index,.slice a8 index.length p8⟩ = true):=hid (by rcases ho with rfl | rfl | rfl | rfl | rfl | rfl <;> rfl)
 clear e0 e1 e2 e3 e4 e5 e6 hc hb hx hf KL KX
 replace BB:=hid BB
 have g2 : (op == 2) = false:=by simp only [beq_eq_false_iff_ne];omega
 have g3 : (op == 3) = false:=by simp only [beq_eq_false_iff_ne];omega
 have g4 : (op == 4) = false:=by simp only [beq_eq_false_iff_ne];omega
 have g5 : (op == 5) = false:=by simp only [beq_eq_false_iff_ne];omega
 have g6 : (op == 6) = false:=by simp only [beq_eq_false_iff_ne];omega
 have g7 : (op == 7) = false:=by simp only [beq_eq_false_iff_ne];omega
 have g8 : (op == 8) = false:=by simp only [beq_eq_false_iff_ne];omega
 have g9 : (op == 9) = false:=by simp only [beq_eq_false_iff_ne];omega
 have g10 : (op == 10) = false:=by simp only [beq_eq_false_iff_ne];omega
 have g15 : (op == 15) = false:=by simp only [beq_eq_false_iff_ne];omega
 have g16 : (op == 16) = false:=by simp only [beq_eq_false_iff_ne];omega
 clear ho
 go_enter Tryd.func74,Tryd.ntmps74
 go_wp2
 go_ret
 exact ⟨retB F.out.symm,BB.out⟩

theorem agrees_any (c : Cd) (th pl : Int) (b : Bd) (x : Ins) (w : World) (hc : c.okW w) (hs : SmallP c) (hb : b.okW w) (hbs : b.slots.length≤1000) (hx : x.okW w) (ho : isOp x.op = true) (hf : fieldsB c th b pl x = true) :
  Calls Tryd.prog 74 #[.agg #[c.rv,c.gv,c.tv,c.ev,c.cv,.int .i64 th,b.sv,b.cv,.int .i64 b.most],.int .i64 pl,x.val] w fun e w'=>e = .returned (.bool (agreesB c th b pl x))∧Below w.heap.size w w':=by
 obtain ⟨op,dst,src,rc,n,tt,items,iv,index,xv⟩:=x
 have h : 1≤op∧op≤17:=by simpa [isOp] using ho
 have : op = 2∨op = 3∨op = 4∨op = 5∨op = 6∨op = 7∨op = 8∨op = 9∨op = 10∨op = 15∨op = 16∨(op = 1∨op = 11∨op = 12∨op = 13∨op = 14∨op = 17):=by omega
 rcases this with rfl | rfl | rfl | rfl | rfl | rfl | rfl | rfl | rfl | rfl | rfl | h
 ·exact agrees2 c th pl b dst src rc n tt items index iv xv w hc hs hb hbs hx hf
 ·exact agrees3 c th pl b dst src rc n tt items index iv xv w hc hs hb hbs hx hf
 ·exact agrees4 c th pl b dst src rc n tt items index iv xv w hc hs hb hbs hx hf
 ·exact agrees5 c th pl b dst src rc n tt items index iv xv w hc hs hb hbs hx hf
 ·exact agrees6 c th pl b dst src rc n tt items index iv xv w hc hs hb hbs hx hf
 ·exact agrees7 c th pl b dst src rc n tt items index iv xv w hc hs hb hbs hx hf
 ·exact agrees8 c th pl b dst src rc n tt items index iv xv w hc hs hb hbs hx hf
 ·exact agrees9 c th pl b dst src rc n tt items index iv xv w hc hs hb hbs hx hf
 ·exact agrees10 c th pl b dst src rc n tt items index iv xv w hc hs hb hbs hx hf
 ·exact agrees15 c th pl b dst src rc n tt items index iv xv w hc hs hb hbs hx hf
 ·exact agrees16 c th pl b dst src rc n tt items index iv xv w hc hs hb hbs hx hf
 ·exact agreesO c th pl b op dst src rc n tt items index iv xv w hc hs hb hbs hx h hf
end Go.Proofs.YtdpbapoahfggeaaDoor
