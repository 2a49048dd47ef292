/- Contract of agrees: loads of cells, sizes, makes. -/
import Derived.Test.YtdpbapoahfggeaaDoorAgrA
namespace Go.Proofs.YtdpbapoahfggeaaDoor
open Go.ChangeShapes Go.WideShapes Go.ChangeAt Go.RowKit
set_option linter.unusedVariables false
set_option linter.unusedSimpArgs false

theorem fields_d {c : Cd} {th : Int} {b : Bd} {pl : Int} {x : Ins} (h : fieldsB c th b pl x = true) (k : hasD x.op = true) : isIn x.dst b.slots.length = true:=by
 unfold fieldsB at h
 rw [k] at h
 simp only [Bool.and_eq_true,fld,if_true] at h
 exact h.1
theorem fields_s {c : Cd} {th : Int} {b : Bd} {pl : Int} {x : Ins} (h : fieldsB c th b pl x = true) (k : hasS x.op = true) : isIn x.src b.slots.length = true:=by
 unfold fieldsB at h
 rw [k] at h
 simp only [Bool.and_eq_true,fld,if_true] at h
 exact h.2.1
theorem fields_r {c : Cd} {th : Int} {b : Bd} {pl : Int} {x : Ins} (h : fieldsB c th b pl x = true) (k : hasR x.op = true) : isIn x.rc c.recs.length = true:=by
 unfold fieldsB at h
 rw [k] at h
 simp only [Bool.and_eq_true,fld,if_true] at h
 exact h.2.2.1
theorem holdsB_eq {b : Bd} {k : Nat} {x : Loc} (h : b.slots[k]? = some x) (kind rc : Int) : holdsB b k kind rc = (x.kind == kind && x.rc == rc):=by
 unfold holdsB
 rw [Int.toNat_natCast,show b.slots.getD k Loc.z = x by simp [List.getD,h]]
theorem hasFieldB_eq {c : Cd} {b : Bd} {x : Ins} {ks kr : Nat} {s : Loc} {r : Rl} (e1 : x.src = ks) (e2 : x.rc = kr) (hs : b.slots[ks]? = some s) (hr : c.recs[kr]? = some r) : hasFieldB c b x = ((s.kind == 4 && s.rc == (kr : Int)) && isIn x.n r.flds.length):=by
 unfold hasFieldB
 rw [e1,e2,holdsB_eq hs,Int.toNat_natCast,show c.recs.getD kr Rl.z = r by simp [List.getD,hr]]
theorem thirteen2 {W : World} {b0 b1 : Nat} {v0 v1 v2 v3 v4 v5 v6 v7 v8 u0 u1 u2 u3 u4 u5 u6 u7 : Value} (h : BoxAt W b0 [v0,v1,v2,v3,v4,v5,v6,v7,v8]) (k : BoxAt W b1 [u0,u1,u2,u3,u4,u5,u6,u7]) :
  (W.cell? ⟨b0,0,none⟩ = some v0∧W.cell? ⟨b0,1,none⟩ = some v1∧W.cell? ⟨b0,2,none⟩ = some v2∧W.cell? ⟨b0,3,none⟩ = some v3∧W.cell? ⟨b0,4,none⟩ = some v4∧W.cell? ⟨b0,5,none⟩ = some v5∧W.cell? ⟨b0,6,none⟩ = some v6∧W.cell? ⟨b0,7,none⟩ = some v7∧W.cell? ⟨b0,8,none⟩ = some v8) ∧
  (W.cell? ⟨b1,0,none⟩ = some u0∧W.cell? ⟨b1,1,none⟩ = some u1∧W.cell? ⟨b1,2,none⟩ = some u2∧W.cell? ⟨b1,3,none⟩ = some u3∧W.cell? ⟨b1,4,none⟩ = some u4∧W.cell? ⟨b1,5,none⟩ = some u5∧W.cell? ⟨b1,6,none⟩ = some u6∧W.cell? ⟨b1,7,none⟩ = some u7) :=
 ⟨⟨h.2 0 _ rfl,h.2 1 _ rfl,h.2 2 _ rfl,h.2 3 _ rfl,h.2 4 _ rfl,h.2 5 _ rfl,h.2 6 _ rfl,h.2 7 _ rfl,h.2 8 _ rfl⟩,⟨k.2 0 _ rfl,k.2 1 _ rfl,k.2 2 _ rfl,k.2 3 _ rfl,k.2 4 _ rfl,k.2 5 _ rfl,k.2 6 _ rfl,k.2 7 _ rfl⟩⟩
theorem sec_cells {w : World} {v : Value} {l : List Sec} (h : Secs w v l) {k : Nat} {x : Sec} (hx : l[k]? = some x) : ∃ b off cap,v = .slice (some ⟨b,off,none⟩) l.length cap∧b < w.heap.size∧w.cell? ⟨b,off + k * 3,none⟩ = some (.int .i64 x.th)∧w.cell? ⟨b,off + k * 3 + 1,none⟩ = some (.int .i64 x.fr)∧w.cell? ⟨b,off + k * 3 + 2,none⟩ = some (.int .i64 x.to):=by
 obtain ⟨a,cap,e,hr⟩:=h.at
 obtain ⟨y,b,off,hy,ha,hb,hc,ok⟩:=hr k (List.getElem?_eq_some_iff.1 hx).1
 rw [hx] at hy;cases hy
 exact ⟨b,off,cap,by rw [e,ha],hb,hc 0 _ rfl,hc 1 _ rfl,hc 2 _ rfl⟩

set_option maxRecDepth 100000 in
set_option maxHeartbeats 1000000 in
theorem agrees4 (c : Cd) (th pl : Int) (b : Bd) (dst src rc n tt : Int) (items index : List Itm) (iv xv : Value) (w : World) (hc : c.okW w) (hs : SmallP c) (hb : b.okW w) (hbs : b.slots.length≤1000) (hx : Ins.okW w ⟨4,dst,src,rc,n,tt,items,iv,index,xv⟩) (hf : fieldsB c th b pl ⟨4,dst,src,rc,n,tt,items,iv,index,xv⟩ = true) :
  Calls Tryd.prog 74 #[.agg #[c.rv,c.gv,c.tv,c.ev,c.cv,.int .i64 th,b.sv,b.cv,.int .i64 b.most],.int .i64 pl,.agg #[.int .i64 4,.int .i64 dst,.int .i64 src,.int .i64 rc,.int .i64 n,.int .i64 tt,iv,xv]] w fun e w'=>e = .returned (.bool (agreesB c th b pl ⟨4,dst,src,rc,n,tt,items,iv,index,xv⟩))∧Below w.heap.size w w':=by
 obtain ⟨a0,p0,a1,p1,a2,p2,a3,p3,a4,p4,e0,e1,e2,e3,e4⟩:=cd_open hc
 obtain ⟨a5,p5,e5⟩:=hb.2.1.form
 obtain ⟨a6,p6,e6⟩:=hb.2.2.form
 obtain ⟨a7,p7,e7⟩:=hx.2.1.form
 obtain ⟨a8,p8,e8⟩:=hx.2.2.form
 simp only at e7 e8
 subst e7 e8
 obtain ⟨kd,ed,hkd⟩:=isIn_nat (fields_d hf rfl)
 simp only at ed
 subst ed
 obtain ⟨sd,hd⟩ : ∃ sd,b.slots[kd]? = some sd:=⟨b.slots[kd],by simp [hkd]⟩
 obtain ⟨ks,es,hks⟩:=isIn_nat (fields_s hf rfl)
 simp only at es
 subst es
 obtain ⟨ss,hss⟩ : ∃ ss,b.slots[ks]? = some ss:=⟨b.slots[ks],by simp [hks]⟩
 have BB:=below2 w (.cells #[.slice a0 c.recs.length p0,.slice a1 c.globs.length p1,.slice a2 c.threads.length p2,.slice a3 c.sites.length p3,.slice a4 c.secs.length p4,.int .i64 th,.slice a5 b.slots.length p5,.slice a6 b.code.length p6,.int .i64 b.most] 110) (.cells #[.int .i64 4,.int .i64 kd,.int .i64 ks,.int .i64 rc,.int .i64 n,.int .i64 tt,.slice a7 items.length p7,.slice a8 index.length p8] 58)
 have KL:=(BoxAt.new w #[.slice a0 c.recs.length p0,.slice a1 c.globs.length p1,.slice a2 c.threads.length p2,.slice a3 c.sites.length p3,.slice a4 c.secs.length p4,.int .i64 th,.slice a5 b.slots.length p5,.slice a6 b.code.length p6,.int .i64 b.most] 110).past (.cells #[.int .i64 4,.int .i64 kd,.int .i64 ks,.int .i64 rc,.int .i64 n,.int .i64 tt,.slice a7 items.length p7,.slice a8 index.length p8] 58)
 have KX:=BoxAt.new (w.alloc (.cells #[.slice a0 c.recs.length p0,.slice a1 c.globs.length p1,.slice a2 c.threads.length p2,.slice a3 c.sites.length p3,.slice a4 c.secs.length p4,.int .i64 th,.slice a5 b.slots.length p5,.slice a6 b.code.length p6,.int .i64 b.most] 110)) #[.int .i64 4,.int .i64 kd,.int .i64 ks,.int .i64 rc,.int .i64 n,.int .i64 tt,.slice a7 items.length p7,.slice a8 index.length p8] 58
 simp only [World.size_alloc] at KX
 have H:=fun W (h : Below (World.heap (World.alloc (w.alloc (.cells #[.slice a0 c.recs.length p0,.slice a1 c.globs.length p1,.slice a2 c.threads.length p2,.slice a3 c.sites.length p3,.slice a4 c.secs.length p4,.int .i64 th,.slice a5 b.slots.length p5,.slice a6 b.code.length p6,.int .i64 b.most] 110)) (.cells #[.int .i64 4,.int .i64 kd,.int .i64 ks,.int .i64 rc,.int .i64 n,.int .i64 tt,.slice a7 items.length p7,.slice a8 index.length p8] 58))).size (World.alloc (w.alloc (.cells #[.slice a0 c.recs.length p0,.slice a1 c.globs.length p1,.slice a2 c.threads.length p2,.slice a3 c.sites.length p3,.slice a4 c.secs.length p4,.int .i64 th,.slice a5 b.slots.length p5,.slice a6 b.code.length p6,.int .i64 b.most] 110)) (.cells #[.int .i64 4,.int .i64 kd,.int .i64 ks,.int .i64 rc,.int .i64 n,.int .i64 tt,.slice a7 items.length p7,.slice a8 index.length p8] 58)) W) k x kind rc' (hx : b.slots[k]? = some x)=>holds_any c.rv c.gv c.tv c.ev c.cv (.int .i64 th) b.sv b.cv (.int .i64 b.most) b.slots k x kind rc' false W (Locs.kept (Locs.kept hb.2.1 BB) h) (by omega) hx
 have C1:=fun W (h : Below (World.heap (World.alloc (w.alloc (.cells #[.slice a0 c.recs.length p0,.slice a1 c.globs.length p1,.slice a2 c.threads.length p2,.slice a3 c.sites.length p3,.slice a4 c.secs.length p4,.int .i64 th,.slice a5 b.slots.length p5,.slice a6 b.code.length p6,.int .i64 b.most] 110)) (.cells #[.int .i64 4,.int .i64 kd,.int .i64 ks,.int .i64 rc,.int .i64 n,.int .i64 tt,.slice a7 items.length p7,.slice a8 index.length p8] 58))).size (World.alloc (w.alloc (.cells #[.slice a0 c.recs.length p0,.slice a1 c.globs.length p1,.slice a2 c.threads.length p2,.slice a3 c.sites.length p3,.slice a4 c.secs.length p4,.int .i64 th,.slice a5 b.slots.length p5,.slice a6 b.code.length p6,.int .i64 b.most] 110)) (.cells #[.int .i64 4,.int .i64 kd,.int .i64 ks,.int .i64 rc,.int .i64 n,.int .i64 tt,.slice a7 items.length p7,.slice a8 index.length p8] 58)) W)=>H W h kd sd 1 0 hd
 have C2:=fun W (h : Below (World.heap (World.alloc (w.alloc (.cells #[.slice a0 c.recs.length p0,.slice a1 c.globs.length p1,.slice a2 c.threads.length p2,.slice a3 c.sites.length p3,.slice a4 c.secs.length p4,.int .i64 th,.slice a5 b.slots.length p5,.slice a6 b.code.length p6,.int .i64 b.most] 110)) (.cells #[.int .i64 4,.int .i64 kd,.int .i64 ks,.int .i64 rc,.int .i64 n,.int .i64 tt,.slice a7 items.length p7,.slice a8 index.length p8] 58))).size (World.alloc (w.alloc (.cells #[.slice a0 c.recs.length p0,.slice a1 c.globs.length p1,.slice a2 c.threads.length p2,.slice a3 c.sites.length p3,.slice a4 c.secs.length p4,.int .i64 th,.slice a5 b.slots.length p5,.slice a6 b.code.length p6,.int .i64 b.most] 110)) (.cells #[.int .i64 4,.int .i64 kd,.int .i64 ks,.int .i64 rc,.int .i64 n,.int .i64 tt,.slice a7 items.length p7,.slice a8 index.length p8] 58)) W)=>H W h ks ss 3 0 hss
 have F : Hid (agreesB c th b pl ⟨4,kd,ks,rc,n,tt,items,.slice a7 items.length p7,index,.slice a8 index.length p8⟩ = ((sd.kind == 1 && sd.rc == 0) && (ss.kind == 3 && ss.rc == 0))):=hid (by rw [← holdsB_eq hd,← holdsB_eq hss];rfl)
 clear H
 rw [e0,e1,e2,e3,e4,e5,e6] at C1 C2 ⊢
 clear e0 e1 e2 e3 e4 e5 e6 
 clear hc hb hx hf
 generalize (sd.kind == 1 && sd.rc == 0) = q1 at *
 generalize (ss.kind == 3 && ss.rc == 0) = q2 at *
 replace C1:=hid C1
 replace C2:=hid C2
 replace BB:=hid BB
 replace KL:=hid KL
 replace KX:=hid KX
 go_enter Tryd.func74,Tryd.ntmps74
 go_wp2_with fail
 refine Calls.mono (C1.out _ (Below.refl _ _)) ?_
 rintro e w1 ⟨rfl,hb1⟩
 have B1:=hid (bover BB.out hb1)
 cases q1
 ·have G : Hid (agreesB c th b pl ⟨4,kd,ks,rc,n,tt,items,.slice a7 items.length p7,index,.slice a8 index.length p8⟩ = false):=hid (by rw [F.out];rfl)
  clear F C1 C2 BB KL KX
  go_wp2
  go_ret
  exact ⟨retB G.out.symm,B1.out⟩
 ·have G : Hid (agreesB c th b pl ⟨4,kd,ks,rc,n,tt,items,.slice a7 items.length p7,index,.slice a8 index.length p8⟩ = q2):=hid (by rw [F.out];rfl)
  obtain ⟨⟨g0,g1,g2,g3,g4,g5,g6,g7,g8⟩,f0,f1,f2,f3,f4,f5,f6,f7⟩:=thirteen2 (KL.out.kept hb1) (KX.out.kept hb1)
  replace hb1:=hid hb1
  clear F C1 BB KL KX
  go_wp2_with fail
  refine Calls.mono (C2.out _ hb1.out) ?_
  rintro e w2 ⟨rfl,hb2⟩
  have B2:=hid (bover B1.out hb2)
  clear g0 g1 g2 g3 g4 g5 g6 g7 g8 f0 f1 f2 f3 f4 f5 f6 f7 hb1 hb2 C2
  go_wp2
  go_ret
  exact ⟨retB G.out.symm,B2.out⟩

set_option maxRecDepth 100000 in
set_option maxHeartbeats 1000000 in
theorem agrees10 (c : Cd) (th pl : Int) (b : Bd) (dst src rc n tt : Int) (items index : List Itm) (iv xv : Value) (w : World) (hc : c.okW w) (hs : SmallP c) (hb : b.okW w) (hbs : b.slots.length≤1000) (hx : Ins.okW w ⟨10,dst,src,rc,n,tt,items,iv,index,xv⟩) (hf : fieldsB c th b pl ⟨10,dst,src,rc,n,tt,items,iv,index,xv⟩ = true) :
  Calls Tryd.prog 74 #[.agg #[c.rv,c.gv,c.tv,c.ev,c.cv,.int .i64 th,b.sv,b.cv,.int .i64 b.most],.int .i64 pl,.agg #[.int .i64 10,.int .i64 dst,.int .i64 src,.int .i64 rc,.int .i64 n,.int .i64 tt,iv,xv]] w fun e w'=>e = .returned (.bool (agreesB c th b pl ⟨10,dst,src,rc,n,tt,items,iv,index,xv⟩))∧Below w.heap.size w w':=by
 obtain ⟨a0,p0,a1,p1,a2,p2,a3,p3,a4,p4,e0,e1,e2,e3,e4⟩:=cd_open hc
 obtain ⟨a5,p5,e5⟩:=hb.2.1.form
 obtain ⟨a6,p6,e6⟩:=hb.2.2.form
 obtain ⟨a7,p7,e7⟩:=hx.2.1.form
 obtain ⟨a8,p8,e8⟩:=hx.2.2.form
 simp only at e7 e8
 subst e7 e8
 obtain ⟨kd,ed,hkd⟩:=isIn_nat (fields_d hf rfl)
 simp only at ed
 subst ed
 obtain ⟨sd,hd⟩ : ∃ sd,b.slots[kd]? = some sd:=⟨b.slots[kd],by simp [hkd]⟩
 obtain ⟨ks,es,hks⟩:=isIn_nat (fields_s hf rfl)
 simp only at es
 subst es
 obtain ⟨ss,hss⟩ : ∃ ss,b.slots[ks]? = some ss:=⟨b.slots[ks],by simp [hks]⟩
 have BB:=below2 w (.cells #[.slice a0 c.recs.length p0,.slice a1 c.globs.length p1,.slice a2 c.threads.length p2,.slice a3 c.sites.length p3,.slice a4 c.secs.length p4,.int .i64 th,.slice a5 b.slots.length p5,.slice a6 b.code.length p6,.int .i64 b.most] 110) (.cells #[.int .i64 10,.int .i64 kd,.int .i64 ks,.int .i64 rc,.int .i64 n,.int .i64 tt,.slice a7 items.length p7,.slice a8 index.length p8] 58)
 have KL:=(BoxAt.new w #[.slice a0 c.recs.length p0,.slice a1 c.globs.length p1,.slice a2 c.threads.length p2,.slice a3 c.sites.length p3,.slice a4 c.secs.length p4,.int .i64 th,.slice a5 b.slots.length p5,.slice a6 b.code.length p6,.int .i64 b.most] 110).past (.cells #[.int .i64 10,.int .i64 kd,.int .i64 ks,.int .i64 rc,.int .i64 n,.int .i64 tt,.slice a7 items.length p7,.slice a8 index.length p8] 58)
 have KX:=BoxAt.new (w.alloc (.cells #[.slice a0 c.recs.length p0,.slice a1 c.globs.length p1,.slice a2 c.threads.length p2,.slice a3 c.sites.length p3,.slice a4 c.secs.length p4,.int .i64 th,.slice a5 b.slots.length p5,.slice a6 b.code.length p6,.int .i64 b.most] 110)) #[.int .i64 10,.int .i64 kd,.int .i64 ks,.int .i64 rc,.int .i64 n,.int .i64 tt,.slice a7 items.length p7,.slice a8 index.length p8] 58
 simp only [World.size_alloc] at KX
 have H:=fun W (h : Below (World.heap (World.alloc (w.alloc (.cells #[.slice a0 c.recs.length p0,.slice a1 c.globs.length p1,.slice a2 c.threads.length p2,.slice a3 c.sites.length p3,.slice a4 c.secs.length p4,.int .i64 th,.slice a5 b.slots.length p5,.slice a6 b.code.length p6,.int .i64 b.most] 110)) (.cells #[.int .i64 10,.int .i64 kd,.int .i64 ks,.int .i64 rc,.int .i64 n,.int .i64 tt,.slice a7 items.length p7,.slice a8 index.length p8] 58))).size (World.alloc (w.alloc (.cells #[.slice a0 c.recs.length p0,.slice a1 c.globs.length p1,.slice a2 c.threads.length p2,.slice a3 c.sites.length p3,.slice a4 c.secs.length p4,.int .i64 th,.slice a5 b.slots.length p5,.slice a6 b.code.length p6,.int .i64 b.most] 110)) (.cells #[.int .i64 10,.int .i64 kd,.int .i64 ks,.int .i64 rc,.int .i64 n,.int .i64 tt,.slice a7 items.length p7,.slice a8 index.length p8] 58)) W) k x kind rc' (hx : b.slots[k]? = some x)=>holds_any c.rv c.gv c.tv c.ev c.cv (.int .i64 th) b.sv b.cv (.int .i64 b.most) b.slots k x kind rc' false W (Locs.kept (Locs.kept hb.2.1 BB) h) (by omega) hx
 have C1:=fun W (h : Below (World.heap (World.alloc (w.alloc (.cells #[.slice a0 c.recs.length p0,.slice a1 c.globs.length p1,.slice a2 c.threads.length p2,.slice a3 c.sites.length p3,.slice a4 c.secs.length p4,.int .i64 th,.slice a5 b.slots.length p5,.slice a6 b.code.length p6,.int .i64 b.most] 110)) (.cells #[.int .i64 10,.int .i64 kd,.int .i64 ks,.int .i64 rc,.int .i64 n,.int .i64 tt,.slice a7 items.length p7,.slice a8 index.length p8] 58))).size (World.alloc (w.alloc (.cells #[.slice a0 c.recs.length p0,.slice a1 c.globs.length p1,.slice a2 c.threads.length p2,.slice a3 c.sites.length p3,.slice a4 c.secs.length p4,.int .i64 th,.slice a5 b.slots.length p5,.slice a6 b.code.length p6,.int .i64 b.most] 110)) (.cells #[.int .i64 10,.int .i64 kd,.int .i64 ks,.int .i64 rc,.int .i64 n,.int .i64 tt,.slice a7 items.length p7,.slice a8 index.length p8] 58)) W)=>H W h kd sd 1 0 hd
 have C2:=fun W (h : Below (World.heap (World.alloc (w.alloc (.cells #[.slice a0 c.recs.length p0,.slice a1 c.globs.length p1,.slice a2 c.threads.length p2,.slice a3 c.sites.length p3,.slice a4 c.secs.length p4,.int .i64 th,.slice a5 b.slots.length p5,.slice a6 b.code.length p6,.int .i64 b.most] 110)) (.cells #[.int .i64 10,.int .i64 kd,.int .i64 ks,.int .i64 rc,.int .i64 n,.int .i64 tt,.slice a7 items.length p7,.slice a8 index.length p8] 58))).size (World.alloc (w.alloc (.cells #[.slice a0 c.recs.length p0,.slice a1 c.globs.length p1,.slice a2 c.threads.length p2,.slice a3 c.sites.length p3,.slice a4 c.secs.length p4,.int .i64 th,.slice a5 b.slots.length p5,.slice a6 b.code.length p6,.int .i64 b.most] 110)) (.cells #[.int .i64 10,.int .i64 kd,.int .i64 ks,.int .i64 rc,.int .i64 n,.int .i64 tt,.slice a7 items.length p7,.slice a8 index.length p8] 58)) W)=>H W h ks ss 3 0 hss
 have F : Hid (agreesB c th b pl ⟨10,kd,ks,rc,n,tt,items,.slice a7 items.length p7,index,.slice a8 index.length p8⟩ = ((sd.kind == 1 && sd.rc == 0) && (ss.kind == 3 && ss.rc == 0))):=hid (by rw [← holdsB_eq hd,← holdsB_eq hss];rfl)
 clear H
 rw [e0,e1,e2,e3,e4,e5,e6] at C1 C2 ⊢
 clear e0 e1 e2 e3 e4 e5 e6 
 clear hc hb hx hf
 generalize (sd.kind == 1 && sd.rc == 0) = q1 at *
 generalize (ss.kind == 3 && ss.rc == 0) = q2 at *
 replace C1:=hid C1
 replace C2:=hid C2
 replace BB:=hid BB
 replace KL:=hid KL
 replace KX:=hid KX
 go_enter Tryd.func74,Tryd.ntmps74
 go_wp2_with fail
 refine Calls.mono (C1.out _ (Below.refl _ _)) ?_
 rintro e w1 ⟨rfl,hb1⟩
 have B1:=hid (bover BB.out hb1)
 cases q1
 ·have G : Hid (agreesB c th b pl ⟨10,kd,ks,rc,n,tt,items,.slice a7 items.length p7,index,.slice a8 index.length p8⟩ = false):=hid (by rw [F.out];rfl)
  clear F C1 C2 BB KL KX
  go_wp2
  go_ret
  exact ⟨retB G.out.symm,B1.out⟩
 ·have G : Hid (agreesB c th b pl ⟨10,kd,ks,rc,n,tt,items,.slice a7 items.length p7,index,.slice a8 index.length p8⟩ = q2):=hid (by rw [F.out];rfl)
  obtain ⟨⟨g0,g1,g2,g3,g4,g5,g6,g7,g8⟩,f0,f1,f2,f3,f4,f5,f6,f7⟩:=thirteen2 (KL.out.kept hb1) (KX.out.kept hb1)
  replace hb1:=hid hb1
  clear F C1 BB KL KX
  go_wp2_with fail
  refine Calls.mono (C2.out _ hb1.out) ?_
  rintro e w2 ⟨rfl,hb2⟩
  have B2:=hid (bover B1.out hb2)
  clear g0 g1 g2 g3 g4 g5 g6 g7 g8 f0 f1 f2 f3 f4 f5 f6 f7 hb1 hb2 C2
  go_wp2
  go_ret
  exact ⟨retB G.out.symm,B2.out⟩

set_option maxRecDepth 100000 in
set_option maxHeartbeats 1000000 in
theorem agrees7 (c : Cd) (th pl : Int) (b : Bd) (dst src rc n tt : Int) (items index : List Itm) (iv xv : Value) (w : World) (hc : c.okW w) (hs : SmallP c) (hb : b.okW w) (hbs : b.slots.length≤1000) (hx : Ins.okW w ⟨7,dst,src,rc,n,tt,items,iv,index,xv⟩) (hf : fieldsB c th b pl ⟨7,dst,src,rc,n,tt,items,iv,index,xv⟩ = true) :
  Calls Tryd.prog 74 #[.agg #[c.rv,c.gv,c.tv,c.ev,c.cv,.int .i64 th,b.sv,b.cv,.int .i64 b.most],.int .i64 pl,.agg #[.int .i64 7,.int .i64 dst,.int .i64 src,.int .i64 rc,.int .i64 n,.int .i64 tt,iv,xv]] w fun e w'=>e = .returned (.bool (agreesB c th b pl ⟨7,dst,src,rc,n,tt,items,iv,index,xv⟩))∧Below w.heap.size w w':=by
 obtain ⟨a0,p0,a1,p1,a2,p2,a3,p3,a4,p4,e0,e1,e2,e3,e4⟩:=cd_open hc
 obtain ⟨a5,p5,e5⟩:=hb.2.1.form
 obtain ⟨a6,p6,e6⟩:=hb.2.2.form
 obtain ⟨a7,p7,e7⟩:=hx.2.1.form
 obtain ⟨a8,p8,e8⟩:=hx.2.2.form
 simp only at e7 e8
 subst e7 e8
 obtain ⟨ks,es,hks⟩:=isIn_nat (fields_s hf rfl)
 simp only at es
 subst es
 obtain ⟨ss,hss⟩ : ∃ ss,b.slots[ks]? = some ss:=⟨b.slots[ks],by simp [hks]⟩
 have BB:=below2 w (.cells #[.slice a0 c.recs.length p0,.slice a1 c.globs.length p1,.slice a2 c.threads.length p2,.slice a3 c.sites.length p3,.slice a4 c.secs.length p4,.int .i64 th,.slice a5 b.slots.length p5,.slice a6 b.code.length p6,.int .i64 b.most] 110) (.cells #[.int .i64 7,.int .i64 dst,.int .i64 ks,.int .i64 rc,.int .i64 n,.int .i64 tt,.slice a7 items.length p7,.slice a8 index.length p8] 58)
 have KL:=(BoxAt.new w #[.slice a0 c.recs.length p0,.slice a1 c.globs.length p1,.slice a2 c.threads.length p2,.slice a3 c.sites.length p3,.slice a4 c.secs.length p4,.int .i64 th,.slice a5 b.slots.length p5,.slice a6 b.code.length p6,.int .i64 b.most] 110).past (.cells #[.int .i64 7,.int .i64 dst,.int .i64 ks,.int .i64 rc,.int .i64 n,.int .i64 tt,.slice a7 items.length p7,.slice a8 index.length p8] 58)
 have KX:=BoxAt.new (w.alloc (.cells #[.slice a0 c.recs.length p0,.slice a1 c.globs.length p1,.slice a2 c.threads.length p2,.slice a3 c.sites.length p3,.slice a4 c.secs.length p4,.int .i64 th,.slice a5 b.slots.length p5,.slice a6 b.code.length p6,.int .i64 b.most] 110)) #[.int .i64 7,.int .i64 dst,.int .i64 ks,.int .i64 rc,.int .i64 n,.int .i64 tt,.slice a7 items.length p7,.slice a8 index.length p8] 58
 simp only [World.size_alloc] at KX
 have H:=fun W (h : Below (World.heap (World.alloc (w.alloc (.cells #[.slice a0 c.recs.length p0,.slice a1 c.globs.length p1,.slice a2 c.threads.length p2,.slice a3 c.sites.length p3,.slice a4 c.secs.length p4,.int .i64 th,.slice a5 b.slots.length p5,.slice a6 b.code.length p6,.int .i64 b.most] 110)) (.cells #[.int .i64 7,.int .i64 dst,.int .i64 ks,.int .i64 rc,.int .i64 n,.int .i64 tt,.slice a7 items.length p7,.slice a8 index.length p8] 58))).size (World.alloc (w.alloc (.cells #[.slice a0 c.recs.length p0,.slice a1 c.globs.length p1,.slice a2 c.threads.length p2,.slice a3 c.sites.length p3,.slice a4 c.secs.length p4,.int .i64 th,.slice a5 b.slots.length p5,.slice a6 b.code.length p6,.int .i64 b.most] 110)) (.cells #[.int .i64 7,.int .i64 dst,.int .i64 ks,.int .i64 rc,.int .i64 n,.int .i64 tt,.slice a7 items.length p7,.slice a8 index.length p8] 58)) W) k x kind rc' (hx : b.slots[k]? = some x)=>holds_any c.rv c.gv c.tv c.ev c.cv (.int .i64 th) b.sv b.cv (.int .i64 b.most) b.slots k x kind rc' false W (Locs.kept (Locs.kept hb.2.1 BB) h) (by omega) hx
 have C1:=fun W (h : Below (World.heap (World.alloc (w.alloc (.cells #[.slice a0 c.recs.length p0,.slice a1 c.globs.length p1,.slice a2 c.threads.length p2,.slice a3 c.sites.length p3,.slice a4 c.secs.length p4,.int .i64 th,.slice a5 b.slots.length p5,.slice a6 b.code.length p6,.int .i64 b.most] 110)) (.cells #[.int .i64 7,.int .i64 dst,.int .i64 ks,.int .i64 rc,.int .i64 n,.int .i64 tt,.slice a7 items.length p7,.slice a8 index.length p8] 58))).size (World.alloc (w.alloc (.cells #[.slice a0 c.recs.length p0,.slice a1 c.globs.length p1,.slice a2 c.threads.length p2,.slice a3 c.sites.length p3,.slice a4 c.secs.length p4,.int .i64 th,.slice a5 b.slots.length p5,.slice a6 b.code.length p6,.int .i64 b.most] 110)) (.cells #[.int .i64 7,.int .i64 dst,.int .i64 ks,.int .i64 rc,.int .i64 n,.int .i64 tt,.slice a7 items.length p7,.slice a8 index.length p8] 58)) W)=>H W h ks ss 3 0 hss
 have F : Hid (agreesB c th b pl ⟨7,dst,ks,rc,n,tt,items,.slice a7 items.length p7,index,.slice a8 index.length p8⟩ = (ss.kind == 3 && ss.rc == 0)):=hid (by rw [← holdsB_eq hss];rfl)
 clear H
 rw [e0,e1,e2,e3,e4,e5,e6] at C1 ⊢
 clear e0 e1 e2 e3 e4 e5 e6 
 clear hc hb hx hf
 generalize (ss.kind == 3 && ss.rc == 0) = q1 at *
 replace C1:=hid C1
 replace BB:=hid BB
 replace KL:=hid KL
 replace KX:=hid KX
 go_enter Tryd.func74,Tryd.ntmps74
 go_wp2_with fail
 refine Calls.mono (C1.out _ (Below.refl _ _)) ?_
 rintro e w1 ⟨rfl,hb1⟩
 have B1:=hid (bover BB.out hb1)
 go_wp2
 go_ret
 exact ⟨retB F.out.symm,B1.out⟩

set_option maxRecDepth 100000 in
set_option maxHeartbeats 1000000 in
theorem agrees8 (c : Cd) (th pl : Int) (b : Bd) (dst src rc n tt : Int) (items index : List Itm) (iv xv : Value) (w : World) (hc : c.okW w) (hs : SmallP c) (hb : b.okW w) (hbs : b.slots.length≤1000) (hx : Ins.okW w ⟨8,dst,src,rc,n,tt,items,iv,index,xv⟩) (hf : fieldsB c th b pl ⟨8,dst,src,rc,n,tt,items,iv,index,xv⟩ = true) :
  Calls Tryd.prog 74 #[.agg #[c.rv,c.gv,c.tv,c.ev,c.cv,.int .i64 th,b.sv,b.cv,.int .i64 b.most],.int .i64 pl,.agg #[.int .i64 8,.int .i64 dst,.int .i64 src,.int .i64 rc,.int .i64 n,.int .i64 tt,iv,xv]] w fun e w'=>e = .returned (.bool (agreesB c th b pl ⟨8,dst,src,rc,n,tt,items,iv,index,xv⟩))∧Below w.heap.size w w':=by
 obtain ⟨a0,p0,a1,p1,a2,p2,a3,p3,a4,p4,e0,e1,e2,e3,e4⟩:=cd_open hc
 obtain ⟨a5,p5,e5⟩:=hb.2.1.form
 obtain ⟨a6,p6,e6⟩:=hb.2.2.form
 obtain ⟨a7,p7,e7⟩:=hx.2.1.form
 obtain ⟨a8,p8,e8⟩:=hx.2.2.form
 simp only at e7 e8
 subst e7 e8
 obtain ⟨kd,ed,hkd⟩:=isIn_nat (fields_d hf rfl)
 simp only at ed
 subst ed
 obtain ⟨sd,hd⟩ : ∃ sd,b.slots[kd]? = some sd:=⟨b.slots[kd],by simp [hkd]⟩
 obtain ⟨kr,er,hkr⟩:=isIn_nat (fields_r hf rfl)
 simp only at er
 subst er
 obtain ⟨r,hr⟩ : ∃ r,c.recs[kr]? = some r:=⟨c.recs[kr],by simp [hkr]⟩
 have BB:=below2 w (.cells #[.slice a0 c.recs.length p0,.slice a1 c.globs.length p1,.slice a2 c.threads.length p2,.slice a3 c.sites.length p3,.slice a4 c.secs.length p4,.int .i64 th,.slice a5 b.slots.length p5,.slice a6 b.code.length p6,.int .i64 b.most] 110) (.cells #[.int .i64 8,.int .i64 kd,.int .i64 src,.int .i64 kr,.int .i64 n,.int .i64 tt,.slice a7 items.length p7,.slice a8 index.length p8] 58)
 have KL:=(BoxAt.new w #[.slice a0 c.recs.length p0,.slice a1 c.globs.length p1,.slice a2 c.threads.length p2,.slice a3 c.sites.length p3,.slice a4 c.secs.length p4,.int .i64 th,.slice a5 b.slots.length p5,.slice a6 b.code.length p6,.int .i64 b.most] 110).past (.cells #[.int .i64 8,.int .i64 kd,.int .i64 src,.int .i64 kr,.int .i64 n,.int .i64 tt,.slice a7 items.length p7,.slice a8 index.length p8] 58)
 have KX:=BoxAt.new (w.alloc (.cells #[.slice a0 c.recs.length p0,.slice a1 c.globs.length p1,.slice a2 c.threads.length p2,.slice a3 c.sites.length p3,.slice a4 c.secs.length p4,.int .i64 th,.slice a5 b.slots.length p5,.slice a6 b.code.length p6,.int .i64 b.most] 110)) #[.int .i64 8,.int .i64 kd,.int .i64 src,.int .i64 kr,.int .i64 n,.int .i64 tt,.slice a7 items.length p7,.slice a8 index.length p8] 58
 simp only [World.size_alloc] at KX
 have H:=fun W (h : Below (World.heap (World.alloc (w.alloc (.cells #[.slice a0 c.recs.length p0,.slice a1 c.globs.length p1,.slice a2 c.threads.length p2,.slice a3 c.sites.length p3,.slice a4 c.secs.length p4,.int .i64 th,.slice a5 b.slots.length p5,.slice a6 b.code.length p6,.int .i64 b.most] 110)) (.cells #[.int .i64 8,.int .i64 kd,.int .i64 src,.int .i64 kr,.int .i64 n,.int .i64 tt,.slice a7 items.length p7,.slice a8 index.length p8] 58))).size (World.alloc (w.alloc (.cells #[.slice a0 c.recs.length p0,.slice a1 c.globs.length p1,.slice a2 c.threads.length p2,.slice a3 c.sites.length p3,.slice a4 c.secs.length p4,.int .i64 th,.slice a5 b.slots.length p5,.slice a6 b.code.length p6,.int .i64 b.most] 110)) (.cells #[.int .i64 8,.int .i64 kd,.int .i64 src,.int .i64 kr,.int .i64 n,.int .i64 tt,.slice a7 items.length p7,.slice a8 index.length p8] 58)) W) k x kind rc' (hx : b.slots[k]? = some x)=>holds_any c.rv c.gv c.tv c.ev c.cv (.int .i64 th) b.sv b.cv (.int .i64 b.most) b.slots k x kind rc' false W (Locs.kept (Locs.kept hb.2.1 BB) h) (by omega) hx
 have C1:=fun W (h : Below (World.heap (World.alloc (w.alloc (.cells #[.slice a0 c.recs.length p0,.slice a1 c.globs.length p1,.slice a2 c.threads.length p2,.slice a3 c.sites.length p3,.slice a4 c.secs.length p4,.int .i64 th,.slice a5 b.slots.length p5,.slice a6 b.code.length p6,.int .i64 b.most] 110)) (.cells #[.int .i64 8,.int .i64 kd,.int .i64 src,.int .i64 kr,.int .i64 n,.int .i64 tt,.slice a7 items.length p7,.slice a8 index.length p8] 58))).size (World.alloc (w.alloc (.cells #[.slice a0 c.recs.length p0,.slice a1 c.globs.length p1,.slice a2 c.threads.length p2,.slice a3 c.sites.length p3,.slice a4 c.secs.length p4,.int .i64 th,.slice a5 b.slots.length p5,.slice a6 b.code.length p6,.int .i64 b.most] 110)) (.cells #[.int .i64 8,.int .i64 kd,.int .i64 src,.int .i64 kr,.int .i64 n,.int .i64 tt,.slice a7 items.length p7,.slice a8 index.length p8] 58)) W)=>H W h kd sd 4 kr hd
 have C2:=fun W (h : Below (World.heap (World.alloc (w.alloc (.cells #[.slice a0 c.recs.length p0,.slice a1 c.globs.length p1,.slice a2 c.threads.length p2,.slice a3 c.sites.length p3,.slice a4 c.secs.length p4,.int .i64 th,.slice a5 b.slots.length p5,.slice a6 b.code.length p6,.int .i64 b.most] 110)) (.cells #[.int .i64 8,.int .i64 kd,.int .i64 src,.int .i64 kr,.int .i64 n,.int .i64 tt,.slice a7 items.length p7,.slice a8 index.length p8] 58))).size (World.alloc (w.alloc (.cells #[.slice a0 c.recs.length p0,.slice a1 c.globs.length p1,.slice a2 c.threads.length p2,.slice a3 c.sites.length p3,.slice a4 c.secs.length p4,.int .i64 th,.slice a5 b.slots.length p5,.slice a6 b.code.length p6,.int .i64 b.most] 110)) (.cells #[.int .i64 8,.int .i64 kd,.int .i64 src,.int .i64 kr,.int .i64 n,.int .i64 tt,.slice a7 items.length p7,.slice a8 index.length p8] 58)) W)=>isSite_any c th b.sv b.cv (.int .i64 b.most) n pl kr W (Stes.kept (Stes.kept hc.2.2.2.1 BB) h) (by have:=hs.l4;omega)
 have F : Hid (agreesB c th b pl ⟨8,kd,src,kr,n,tt,items,.slice a7 items.length p7,index,.slice a8 index.length p8⟩ = ((sd.kind == 4 && sd.rc == (kr : Int)) && siteB c th pl n (kr : Int))):=hid (by rw [← holdsB_eq hd];rfl)
 clear H
 rw [e0,e1,e2,e3,e4,e5,e6] at C1 C2 ⊢
 clear e0 e1 e2 e3 e4 e5 e6 
 clear hc hb hx hf
 generalize (sd.kind == 4 && sd.rc == (kr : Int)) = q1 at *
 generalize siteB c th pl n (kr : Int) = q2 at *
 replace C1:=hid C1
 replace C2:=hid C2
 replace BB:=hid BB
 replace KL:=hid KL
 replace KX:=hid KX
 go_enter Tryd.func74,Tryd.ntmps74
 go_wp2_with fail
 refine Calls.mono (C1.out _ (Below.refl _ _)) ?_
 rintro e w1 ⟨rfl,hb1⟩
 have B1:=hid (bover BB.out hb1)
 cases q1
 ·have G : Hid (agreesB c th b pl ⟨8,kd,src,kr,n,tt,items,.slice a7 items.length p7,index,.slice a8 index.length p8⟩ = false):=hid (by rw [F.out];rfl)
  clear F C1 C2 BB KL KX
  go_wp2
  go_ret
  exact ⟨retB G.out.symm,B1.out⟩
 ·have G : Hid (agreesB c th b pl ⟨8,kd,src,kr,n,tt,items,.slice a7 items.length p7,index,.slice a8 index.length p8⟩ = q2):=hid (by rw [F.out];rfl)
  obtain ⟨⟨g0,g1,g2,g3,g4,g5,g6,g7,g8⟩,f0,f1,f2,f3,f4,f5,f6,f7⟩:=thirteen2 (KL.out.kept hb1) (KX.out.kept hb1)
  replace hb1:=hid hb1
  clear F C1 BB KL KX
  go_wp2_with fail
  refine Calls.mono (C2.out _ hb1.out) ?_
  rintro e w2 ⟨rfl,hb2⟩
  have B2:=hid (bover B1.out hb2)
  clear g0 g1 g2 g3 g4 g5 g6 g7 g8 f0 f1 f2 f3 f4 f5 f6 f7 hb1 hb2 C2
  go_wp2
  go_ret
  exact ⟨retB G.out.symm,B2.out⟩

set_option maxRecDepth 100000 in
set_option maxHeartbeats 1000000 in
theorem agrees9 (c : Cd) (th pl : Int) (b : Bd) (dst src rc n tt : Int) (items index : List Itm) (iv xv : Value) (w : World) (hc : c.okW w) (hs : SmallP c) (hb : b.okW w) (hbs : b.slots.length≤1000) (hx : Ins.okW w ⟨9,dst,src,rc,n,tt,items,iv,index,xv⟩) (hf : fieldsB c th b pl ⟨9,dst,src,rc,n,tt,items,iv,index,xv⟩ = true) :
  Calls Tryd.prog 74 #[.agg #[c.rv,c.gv,c.tv,c.ev,c.cv,.int .i64 th,b.sv,b.cv,.int .i64 b.most],.int .i64 pl,.agg #[.int .i64 9,.int .i64 dst,.int .i64 src,.int .i64 rc,.int .i64 n,.int .i64 tt,iv,xv]] w fun e w'=>e = .returned (.bool (agreesB c th b pl ⟨9,dst,src,rc,n,tt,items,iv,index,xv⟩))∧Below w.heap.size w w':=by
 obtain ⟨a0,p0,a1,p1,a2,p2,a3,p3,a4,p4,e0,e1,e2,e3,e4⟩:=cd_open hc
 obtain ⟨a5,p5,e5⟩:=hb.2.1.form
 obtain ⟨a6,p6,e6⟩:=hb.2.2.form
 obtain ⟨a7,p7,e7⟩:=hx.2.1.form
 obtain ⟨a8,p8,e8⟩:=hx.2.2.form
 simp only at e7 e8
 subst e7 e8
 obtain ⟨kd,ed,hkd⟩:=isIn_nat (fields_d hf rfl)
 simp only at ed
 subst ed
 obtain ⟨sd,hd⟩ : ∃ sd,b.slots[kd]? = some sd:=⟨b.slots[kd],by simp [hkd]⟩
 have BB:=below2 w (.cells #[.slice a0 c.recs.length p0,.slice a1 c.globs.length p1,.slice a2 c.threads.length p2,.slice a3 c.sites.length p3,.slice a4 c.secs.length p4,.int .i64 th,.slice a5 b.slots.length p5,.slice a6 b.code.length p6,.int .i64 b.most] 110) (.cells #[.int .i64 9,.int .i64 kd,.int .i64 src,.int .i64 rc,.int .i64 n,.int .i64 tt,.slice a7 items.length p7,.slice a8 index.length p8] 58)
 have KL:=(BoxAt.new w #[.slice a0 c.recs.length p0,.slice a1 c.globs.length p1,.slice a2 c.threads.length p2,.slice a3 c.sites.length p3,.slice a4 c.secs.length p4,.int .i64 th,.slice a5 b.slots.length p5,.slice a6 b.code.length p6,.int .i64 b.most] 110).past (.cells #[.int .i64 9,.int .i64 kd,.int .i64 src,.int .i64 rc,.int .i64 n,.int .i64 tt,.slice a7 items.length p7,.slice a8 index.length p8] 58)
 have KX:=BoxAt.new (w.alloc (.cells #[.slice a0 c.recs.length p0,.slice a1 c.globs.length p1,.slice a2 c.threads.length p2,.slice a3 c.sites.length p3,.slice a4 c.secs.length p4,.int .i64 th,.slice a5 b.slots.length p5,.slice a6 b.code.length p6,.int .i64 b.most] 110)) #[.int .i64 9,.int .i64 kd,.int .i64 src,.int .i64 rc,.int .i64 n,.int .i64 tt,.slice a7 items.length p7,.slice a8 index.length p8] 58
 simp only [World.size_alloc] at KX
 have H:=fun W (h : Below (World.heap (World.alloc (w.alloc (.cells #[.slice a0 c.recs.length p0,.slice a1 c.globs.length p1,.slice a2 c.threads.length p2,.slice a3 c.sites.length p3,.slice a4 c.secs.length p4,.int .i64 th,.slice a5 b.slots.length p5,.slice a6 b.code.length p6,.int .i64 b.most] 110)) (.cells #[.int .i64 9,.int .i64 kd,.int .i64 src,.int .i64 rc,.int .i64 n,.int .i64 tt,.slice a7 items.length p7,.slice a8 index.length p8] 58))).size (World.alloc (w.alloc (.cells #[.slice a0 c.recs.length p0,.slice a1 c.globs.length p1,.slice a2 c.threads.length p2,.slice a3 c.sites.length p3,.slice a4 c.secs.length p4,.int .i64 th,.slice a5 b.slots.length p5,.slice a6 b.code.length p6,.int .i64 b.most] 110)) (.cells #[.int .i64 9,.int .i64 kd,.int .i64 src,.int .i64 rc,.int .i64 n,.int .i64 tt,.slice a7 items.length p7,.slice a8 index.length p8] 58)) W) k x kind rc' (hx : b.slots[k]? = some x)=>holds_any c.rv c.gv c.tv c.ev c.cv (.int .i64 th) b.sv b.cv (.int .i64 b.most) b.slots k x kind rc' false W (Locs.kept (Locs.kept hb.2.1 BB) h) (by omega) hx
 have C1:=fun W (h : Below (World.heap (World.alloc (w.alloc (.cells #[.slice a0 c.recs.length p0,.slice a1 c.globs.length p1,.slice a2 c.threads.length p2,.slice a3 c.sites.length p3,.slice a4 c.secs.length p4,.int .i64 th,.slice a5 b.slots.length p5,.slice a6 b.code.length p6,.int .i64 b.most] 110)) (.cells #[.int .i64 9,.int .i64 kd,.int .i64 src,.int .i64 rc,.int .i64 n,.int .i64 tt,.slice a7 items.length p7,.slice a8 index.length p8] 58))).size (World.alloc (w.alloc (.cells #[.slice a0 c.recs.length p0,.slice a1 c.globs.length p1,.slice a2 c.threads.length p2,.slice a3 c.sites.length p3,.slice a4 c.secs.length p4,.int .i64 th,.slice a5 b.slots.length p5,.slice a6 b.code.length p6,.int .i64 b.most] 110)) (.cells #[.int .i64 9,.int .i64 kd,.int .i64 src,.int .i64 rc,.int .i64 n,.int .i64 tt,.slice a7 items.length p7,.slice a8 index.length p8] 58)) W)=>H W h kd sd 3 0 hd
 have C2:=fun W (h : Below (World.heap (World.alloc (w.alloc (.cells #[.slice a0 c.recs.length p0,.slice a1 c.globs.length p1,.slice a2 c.threads.length p2,.slice a3 c.sites.length p3,.slice a4 c.secs.length p4,.int .i64 th,.slice a5 b.slots.length p5,.slice a6 b.code.length p6,.int .i64 b.most] 110)) (.cells #[.int .i64 9,.int .i64 kd,.int .i64 src,.int .i64 rc,.int .i64 n,.int .i64 tt,.slice a7 items.length p7,.slice a8 index.length p8] 58))).size (World.alloc (w.alloc (.cells #[.slice a0 c.recs.length p0,.slice a1 c.globs.length p1,.slice a2 c.threads.length p2,.slice a3 c.sites.length p3,.slice a4 c.secs.length p4,.int .i64 th,.slice a5 b.slots.length p5,.slice a6 b.code.length p6,.int .i64 b.most] 110)) (.cells #[.int .i64 9,.int .i64 kd,.int .i64 src,.int .i64 rc,.int .i64 n,.int .i64 tt,.slice a7 items.length p7,.slice a8 index.length p8] 58)) W)=>isSite_any c th b.sv b.cv (.int .i64 b.most) n pl (-1) W (Stes.kept (Stes.kept hc.2.2.2.1 BB) h) (by have:=hs.l4;omega)
 have F : Hid (agreesB c th b pl ⟨9,kd,src,rc,n,tt,items,.slice a7 items.length p7,index,.slice a8 index.length p8⟩ = ((sd.kind == 3 && sd.rc == 0) && siteB c th pl n (-1))):=hid (by rw [← holdsB_eq hd];rfl)
 clear H
 rw [e0,e1,e2,e3,e4,e5,e6] at C1 C2 ⊢
 clear e0 e1 e2 e3 e4 e5 e6 
 clear hc hb hx hf
 generalize (sd.kind == 3 && sd.rc == 0) = q1 at *
 generalize siteB c th pl n (-1) = q2 at *
 replace C1:=hid C1
 replace C2:=hid C2
 replace BB:=hid BB
 replace KL:=hid KL
 replace KX:=hid KX
 go_enter Tryd.func74,Tryd.ntmps74
 go_wp2_with fail
 refine Calls.mono (C1.out _ (Below.refl _ _)) ?_
 rintro e w1 ⟨rfl,hb1⟩
 have B1:=hid (bover BB.out hb1)
 cases q1
 ·have G : Hid (agreesB c th b pl ⟨9,kd,src,rc,n,tt,items,.slice a7 items.length p7,index,.slice a8 index.length p8⟩ = false):=hid (by rw [F.out];rfl)
  clear F C1 C2 BB KL KX
  go_wp2
  go_ret
  exact ⟨retB G.out.symm,B1.out⟩
 ·have G : Hid (agreesB c th b pl ⟨9,kd,src,rc,n,tt,items,.slice a7 items.length p7,index,.slice a8 index.length p8⟩ = q2):=hid (by rw [F.out];rfl)
  obtain ⟨⟨g0,g1,g2,g3,g4,g5,g6,g7,g8⟩,f0,f1,f2,f3,f4,f5,f6,f7⟩:=thirteen2 (KL.out.kept hb1) (KX.out.kept hb1)
  replace hb1:=hid hb1
  clear F C1 BB KL KX
  go_wp2_with fail
  refine Calls.mono (C2.out _ hb1.out) ?_
  rintro e w2 ⟨rfl,hb2⟩
  have B2:=hid (bover B1.out hb2)
  clear g0 g1 g2 g3 g4 g5 g6 g7 g8 f0 f1 f2 f3 f4 f5 f6 f7 hb1 hb2 C2
  go_wp2
  go_ret
  exact ⟨retB G.out.symm,B2.out⟩

set_option maxRecDepth 100000 in
set_option maxHeartbeats 1000000 in
theorem agrees6 (c : Cd) (th pl : Int) (b : Bd) (dst src rc n tt : Int) (items index : List Itm) (iv xv : Value) (w : World) (hc : c.okW w) (hs : SmallP c) (hb : b.okW w) (hbs : b.slots.length≤1000) (hx : Ins.okW w ⟨6,dst,src,rc,n,tt,items,iv,index,xv⟩) (hf : fieldsB c th b pl ⟨6,dst,src,rc,n,tt,items,iv,index,xv⟩ = true) :
  Calls Tryd.prog 74 #[.agg #[c.rv,c.gv,c.tv,c.ev,c.cv,.int .i64 th,b.sv,b.cv,.int .i64 b.most],.int .i64 pl,.agg #[.int .i64 6,.int .i64 dst,.int .i64 src,.int .i64 rc,.int .i64 n,.int .i64 tt,iv,xv]] w fun e w'=>e = .returned (.bool (agreesB c th b pl ⟨6,dst,src,rc,n,tt,items,iv,index,xv⟩))∧Below w.heap.size w w':=by
 obtain ⟨a0,p0,a1,p1,a2,p2,a3,p3,a4,p4,e0,e1,e2,e3,e4⟩:=cd_open hc
 obtain ⟨a5,p5,e5⟩:=hb.2.1.form
 obtain ⟨a6,p6,e6⟩:=hb.2.2.form
 obtain ⟨a7,p7,e7⟩:=hx.2.1.form
 obtain ⟨a8,p8,e8⟩:=hx.2.2.form
 simp only at e7 e8
 subst e7 e8
 obtain ⟨ks,es,hks⟩:=isIn_nat (fields_s hf rfl)
 simp only at es
 subst es
 obtain ⟨ss,hss⟩ : ∃ ss,b.slots[ks]? = some ss:=⟨b.slots[ks],by simp [hks]⟩
 obtain ⟨kr,er,hkr⟩:=isIn_nat (fields_r hf rfl)
 simp only at er
 subst er
 obtain ⟨r,hr⟩ : ∃ r,c.recs[kr]? = some r:=⟨c.recs[kr],by simp [hkr]⟩
 have BB:=below2 w (.cells #[.slice a0 c.recs.length p0,.slice a1 c.globs.length p1,.slice a2 c.threads.length p2,.slice a3 c.sites.length p3,.slice a4 c.secs.length p4,.int .i64 th,.slice a5 b.slots.length p5,.slice a6 b.code.length p6,.int .i64 b.most] 110) (.cells #[.int .i64 6,.int .i64 dst,.int .i64 ks,.int .i64 kr,.int .i64 n,.int .i64 tt,.slice a7 items.length p7,.slice a8 index.length p8] 58)
 have KL:=(BoxAt.new w #[.slice a0 c.recs.length p0,.slice a1 c.globs.length p1,.slice a2 c.threads.length p2,.slice a3 c.sites.length p3,.slice a4 c.secs.length p4,.int .i64 th,.slice a5 b.slots.length p5,.slice a6 b.code.length p6,.int .i64 b.most] 110).past (.cells #[.int .i64 6,.int .i64 dst,.int .i64 ks,.int .i64 kr,.int .i64 n,.int .i64 tt,.slice a7 items.length p7,.slice a8 index.length p8] 58)
 have KX:=BoxAt.new (w.alloc (.cells #[.slice a0 c.recs.length p0,.slice a1 c.globs.length p1,.slice a2 c.threads.length p2,.slice a3 c.sites.length p3,.slice a4 c.secs.length p4,.int .i64 th,.slice a5 b.slots.length p5,.slice a6 b.code.length p6,.int .i64 b.most] 110)) #[.int .i64 6,.int .i64 dst,.int .i64 ks,.int .i64 kr,.int .i64 n,.int .i64 tt,.slice a7 items.length p7,.slice a8 index.length p8] 58
 simp only [World.size_alloc] at KX
 have H:=fun W (h : Below (World.heap (World.alloc (w.alloc (.cells #[.slice a0 c.recs.length p0,.slice a1 c.globs.length p1,.slice a2 c.threads.length p2,.slice a3 c.sites.length p3,.slice a4 c.secs.length p4,.int .i64 th,.slice a5 b.slots.length p5,.slice a6 b.code.length p6,.int .i64 b.most] 110)) (.cells #[.int .i64 6,.int .i64 dst,.int .i64 ks,.int .i64 kr,.int .i64 n,.int .i64 tt,.slice a7 items.length p7,.slice a8 index.length p8] 58))).size (World.alloc (w.alloc (.cells #[.slice a0 c.recs.length p0,.slice a1 c.globs.length p1,.slice a2 c.threads.length p2,.slice a3 c.sites.length p3,.slice a4 c.secs.length p4,.int .i64 th,.slice a5 b.slots.length p5,.slice a6 b.code.length p6,.int .i64 b.most] 110)) (.cells #[.int .i64 6,.int .i64 dst,.int .i64 ks,.int .i64 kr,.int .i64 n,.int .i64 tt,.slice a7 items.length p7,.slice a8 index.length p8] 58)) W) k x kind rc' (hx : b.slots[k]? = some x)=>holds_any c.rv c.gv c.tv c.ev c.cv (.int .i64 th) b.sv b.cv (.int .i64 b.most) b.slots k x kind rc' false W (Locs.kept (Locs.kept hb.2.1 BB) h) (by omega) hx
 have C1:=fun W (h : Below (World.heap (World.alloc (w.alloc (.cells #[.slice a0 c.recs.length p0,.slice a1 c.globs.length p1,.slice a2 c.threads.length p2,.slice a3 c.sites.length p3,.slice a4 c.secs.length p4,.int .i64 th,.slice a5 b.slots.length p5,.slice a6 b.code.length p6,.int .i64 b.most] 110)) (.cells #[.int .i64 6,.int .i64 dst,.int .i64 ks,.int .i64 kr,.int .i64 n,.int .i64 tt,.slice a7 items.length p7,.slice a8 index.length p8] 58))).size (World.alloc (w.alloc (.cells #[.slice a0 c.recs.length p0,.slice a1 c.globs.length p1,.slice a2 c.threads.length p2,.slice a3 c.sites.length p3,.slice a4 c.secs.length p4,.int .i64 th,.slice a5 b.slots.length p5,.slice a6 b.code.length p6,.int .i64 b.most] 110)) (.cells #[.int .i64 6,.int .i64 dst,.int .i64 ks,.int .i64 kr,.int .i64 n,.int .i64 tt,.slice a7 items.length p7,.slice a8 index.length p8] 58)) W)=>hasField_any c.rv c.gv c.tv c.ev c.cv (.int .i64 th) b.sv b.cv (.int .i64 b.most) c.recs b.slots ks kr ss r 6 dst n tt a7 items.length p7 a8 index.length p8 W (Rls.kept (Rls.kept hc.1 BB) h) (Locs.kept (Locs.kept hb.2.1 BB) h) (by have:=hs.l1;omega) (by omega) hss hr
 have F : Hid (agreesB c th b pl ⟨6,dst,ks,kr,n,tt,items,.slice a7 items.length p7,index,.slice a8 index.length p8⟩ = ((ss.kind == 4 && ss.rc == (kr : Int)) && isIn n r.flds.length)):=hid (by rw [← hasFieldB_eq (c:=c) (b:=b) (x:=⟨6,dst,ks,kr,n,tt,items,.slice a7 items.length p7,index,.slice a8 index.length p8⟩) rfl rfl hss hr];rfl)
 clear H
 rw [e0,e1,e2,e3,e4,e5,e6] at C1 ⊢
 clear e0 e1 e2 e3 e4 e5 e6 
 clear hc hb hx hf
 generalize ((ss.kind == 4 && ss.rc == (kr : Int)) && isIn n r.flds.length) = q1 at *
 replace C1:=hid C1
 replace BB:=hid BB
 replace KL:=hid KL
 replace KX:=hid KX
 go_enter Tryd.func74,Tryd.ntmps74
 go_wp2_with fail
 refine Calls.mono (C1.out _ (Below.refl _ _)) ?_
 rintro e w1 ⟨rfl,hb1⟩
 have B1:=hid (bover BB.out hb1)
 go_wp2
 go_ret
 exact ⟨retB F.out.symm,B1.out⟩

set_option maxRecDepth 100000 in
set_option maxHeartbeats 1000000 in
theorem agrees5 (c : Cd) (th pl : Int) (b : Bd) (dst src rc n tt : Int) (items index : List Itm) (iv xv : Value) (w : World) (hc : c.okW w) (hs : SmallP c) (hb : b.okW w) (hbs : b.slots.length≤1000) (hx : Ins.okW w ⟨5,dst,src,rc,n,tt,items,iv,index,xv⟩) (hf : fieldsB c th b pl ⟨5,dst,src,rc,n,tt,items,iv,index,xv⟩ = true) :
  Calls Tryd.prog 74 #[.agg #[c.rv,c.gv,c.tv,c.ev,c.cv,.int .i64 th,b.sv,b.cv,.int .i64 b.most],.int .i64 pl,.agg #[.int .i64 5,.int .i64 dst,.int .i64 src,.int .i64 rc,.int .i64 n,.int .i64 tt,iv,xv]] w fun e w'=>e = .returned (.bool (agreesB c th b pl ⟨5,dst,src,rc,n,tt,items,iv,index,xv⟩))∧Below w.heap.size w w':=by
 obtain ⟨a0,p0,a1,p1,a2,p2,a3,p3,a4,p4,e0,e1,e2,e3,e4⟩:=cd_open hc
 obtain ⟨a5,p5,e5⟩:=hb.2.1.form
 obtain ⟨a6,p6,e6⟩:=hb.2.2.form
 obtain ⟨a7,p7,e7⟩:=hx.2.1.form
 obtain ⟨a8,p8,e8⟩:=hx.2.2.form
 simp only at e7 e8
 subst e7 e8
 have BB:=below2 w (.cells #[.slice a0 c.recs.length p0,.slice a1 c.globs.length p1,.slice a2 c.threads.length p2,.slice a3 c.sites.length p3,.slice a4 c.secs.length p4,.int .i64 th,.slice a5 b.slots.length p5,.slice a6 b.code.length p6,.int .i64 b.most] 110) (.cells #[.int .i64 5,.int .i64 dst,.int .i64 src,.int .i64 rc,.int .i64 n,.int .i64 tt,.slice a7 items.length p7,.slice a8 index.length p8] 58)
 have KL:=(BoxAt.new w #[.slice a0 c.recs.length p0,.slice a1 c.globs.length p1,.slice a2 c.threads.length p2,.slice a3 c.sites.length p3,.slice a4 c.secs.length p4,.int .i64 th,.slice a5 b.slots.length p5,.slice a6 b.code.length p6,.int .i64 b.most] 110).past (.cells #[.int .i64 5,.int .i64 dst,.int .i64 src,.int .i64 rc,.int .i64 n,.int .i64 tt,.slice a7 items.length p7,.slice a8 index.length p8] 58)
 have KX:=BoxAt.new (w.alloc (.cells #[.slice a0 c.recs.length p0,.slice a1 c.globs.length p1,.slice a2 c.threads.length p2,.slice a3 c.sites.length p3,.slice a4 c.secs.length p4,.int .i64 th,.slice a5 b.slots.length p5,.slice a6 b.code.length p6,.int .i64 b.most] 110)) #[.int .i64 5,.int .i64 dst,.int .i64 src,.int .i64 rc,.int .i64 n,.int .i64 tt,.slice a7 items.length p7,.slice a8 index.length p8] 58
 simp only [World.size_alloc] at KX
 have C1:=fun W=>place59_any n a1 c.globs.length p1 W
 have F : Hid (agreesB c th b pl ⟨5,dst,src,rc,n,tt,items,.slice a7 items.length p7,index,.slice a8 index.length p8⟩ = isIn n c.globs.length):=hid rfl
 rw [e0,e1,e2,e3,e4,e5,e6]
 clear e0 e1 e2 e3 e4 e5 e6 hc hb hx hf KL KX
 generalize isIn n c.globs.length = q1 at *
 replace C1:=hid C1
 replace BB:=hid BB
 go_enter Tryd.func74,Tryd.ntmps74
 go_wp2_with fail
 refine Calls.mono (C1.out _) ?_
 rintro e w1 ⟨rfl,rfl⟩
 go_wp2
 go_ret
 exact ⟨retB F.out.symm,BB.out⟩

end Go.Proofs.YtdpbapoahfggeaaDoor
