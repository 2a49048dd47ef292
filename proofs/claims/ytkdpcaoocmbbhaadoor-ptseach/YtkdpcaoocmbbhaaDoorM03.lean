/- Fits, InsAt, Rg, App, Cnd -/
import Derived.Test.YtkdpcaoocmbbhaaDoorM02
import Derived.Laws.EntriesVeiled
import Derived.Deep.RegionHeld3
import Derived.Deep.CutBlock
import Derived.Deep.CutRange
import Derived.Deep.DeepCutAuto
import Derived.Maps.AppendAt
import Derived.Deep.AppendLies
/- Contracts of fits and localsCanBe. -/
namespace Go.Proofs.YtkdpcaoocmbbhaaDoor
open Go.ChangeShapes Go.WideShapes Go.ChangeAt Go.RowKit
set_option linter.unusedVariables false
set_option linter.unusedSimpArgs false

/-- A code's value, its slices told. -/
theorem cd_open {w : World} {c : Cd} (h : c.okW w) : ∃ a0 p0 a1 p1 a2 p2 a3 p3 a4 p4,c.rv = .slice a0 c.recs.length p0∧c.gv = .slice a1 c.globs.length p1∧c.tv = .slice a2 c.threads.length p2∧c.ev = .slice a3 c.sites.length p3∧c.cv = .slice a4 c.secs.length p4:=by
 obtain ⟨a0,p0,e0⟩:=h.1.form
 obtain ⟨a1,p1,e1⟩:=h.2.1.form
 obtain ⟨a2,p2,e2⟩:=h.2.2.1.form
 obtain ⟨a3,p3,e3⟩:=h.2.2.2.1.form
 obtain ⟨a4,p4,e4⟩:=h.2.2.2.2.form
 exact ⟨a0,p0,a1,p1,a2,p2,a3,p3,a4,p4,e0,e1,e2,e3,e4⟩

def fitsP (c : Cd) : Prop:=c.recs.length≤6∧c.globs.length≤8∧c.threads.length≤4∧c.sites.length≤32∧c.secs.length≤32∧∀ (i : Nat) (r : Rl),c.recs[i]? = some r→r.flds.length≤6
def localsP (c : Cd) : Prop :=
 (∀ (i : Nat) (l : Loc),c.globs[i]? = some l→cellOk c.recs.length l = true) ∧
 (∀ (i : Nat) (r : Rl),c.recs[i]? = some r→∀ (j : Nat) (l : Loc),r.flds[j]? = some l→cellOk c.recs.length l = true) ∧
 (∀ (i : Nat) (t : Bd),c.threads[i]? = some t→∀ (j : Nat) (l : Loc),t.slots[j]? = some l→locOk c.recs.length l = true)

theorem big {n m : Nat} (h : ¬ n≤m) : (m : Int) < (n : Int):=by omega
theorem low {n m : Nat} (h : n≤m) : (n : Int)≤(m : Int):=by omega

set_option maxRecDepth 100000 in
set_option maxHeartbeats 1000000 in
theorem fits_any (c : Cd) (w : World) (hc : c.okW w) (hs : SmallP c) : Calls Tryd.prog 33 #[.agg #[c.rv,c.gv,c.tv,c.ev,c.cv]] w (Ans (fitsP c) w):=by
 obtain ⟨a0,p0,a1,p1,a2,p2,a3,p3,a4,p4,e0,e1,e2,e3,e4⟩:=cd_open hc
 have C:=none24_25 c.rv c.recs (fun _ r=>r.flds.length≤6) (w.alloc (.cells #[c.rv,c.gv,c.tv,c.ev,c.cv] 28)) (Rls.kept hc.1 ((Below.refl _ _).alloc (Nat.le_refl _) _)) (by have:=hs.l1;omega)
  (fun W j x h hx ok=>by obtain ⟨a,p,e⟩:=RowOf.form ok;rw [e];exact long_any a _ p j W)
 rw [e0,e1,e2,e3,e4] at *
 clear e0 e1 e2 e3 e4 hs hc
 replace C:=hid C
 by_cases h0 : c.recs.length≤6
 ·have k0:=low h0
  by_cases h1 : c.globs.length≤8
  ·have k1:=low h1
   by_cases h2 : c.threads.length≤4
   ·have k2:=low h2
    by_cases h3 : c.sites.length≤32
    ·have k3:=low h3
     by_cases h4 : c.secs.length≤32
     ·have k4:=low h4
      go_enter Tryd.func33,Tryd.ntmps33
      go_wp2_with (go_at_call 48;refine Calls.mono C.out ?_;rintro e w' ⟨q,rfl,hq,hb'⟩;replace hq:=hid hq)
      go_ret
      exact exB (by rw [hq.out];simp [fitsP,h0,h1,h2,h3,h4]) (bover ((Below.refl _ _).alloc (Nat.le_refl _) _) hb')
     ·have k4:=big h4
      clear C
      go_enter Tryd.func33,Tryd.ntmps33
      go_wp2
      go_ret
      exact exNo (fun h=>by unfold fitsP at h;omega) ((Below.refl _ _).alloc (Nat.le_refl _) _)
    ·have k3:=big h3
     clear C
     go_enter Tryd.func33,Tryd.ntmps33
     go_wp2
     go_ret
     exact exNo (fun h=>by unfold fitsP at h;omega) ((Below.refl _ _).alloc (Nat.le_refl _) _)
   ·have k2:=big h2
    clear C
    go_enter Tryd.func33,Tryd.ntmps33
    go_wp2
    go_ret
    exact exNo (fun h=>by unfold fitsP at h;omega) ((Below.refl _ _).alloc (Nat.le_refl _) _)
  ·have k1:=big h1
   clear C
   go_enter Tryd.func33,Tryd.ntmps33
   go_wp2
   go_ret
   exact exNo (fun h=>by unfold fitsP at h;omega) ((Below.refl _ _).alloc (Nat.le_refl _) _)
 ·have k0:=big h0
  clear C
  go_enter Tryd.func33,Tryd.ntmps33
  go_wp2
  go_ret
  exact exNo (fun h=>by unfold fitsP at h;omega) ((Below.refl _ _).alloc (Nat.le_refl _) _)

set_option maxRecDepth 100000 in
set_option maxHeartbeats 1000000 in
theorem locals_any (c : Cd) (w : World) (hc : c.okW w) (hs : SmallP c) : Calls Tryd.prog 34 #[.agg #[c.rv,c.gv,c.tv,c.ev,c.cv]] w (Ans (localsP c) w):=by
 obtain ⟨a0,p0,a1,p1,a2,p2,a3,p3,a4,p4,e0,e1,e2,e3,e4⟩:=cd_open hc
 have K1:=hid (BoxAt.new w #[.slice a0 c.recs.length p0,c.gv,c.tv,c.ev,c.cv] 28)
 have D1:=hid (fun W (h : BoxAt W w.heap.size [.slice a0 c.recs.length p0,c.gv,c.tv,c.ev,c.cv]) (k : BoxAt W (w.heap.size + 1) [.func (.func 50) #[] #[.pointer (some ⟨w.heap.size,0,none⟩)]]) (hb : Below w.heap.size w W) =>
  none29_28 c.gv c.globs (fun _ x=>cellOk c.recs.length x = true) (.pointer (some ⟨w.heap.size + 1,0,none⟩)) W (Locs.kept hc.2.1 hb) (by have:=hs.l2;omega)
   (fun W' j x h' _ _=>(wrongCell_any _ _ a0 _ p0 c.gv c.tv c.ev c.cv j x W' (h.kept h') (k.kept h')).mono (by rintro e w' ⟨rfl,h2⟩;exact exN (by simp) h2)))
 have D2:=hid (fun W (h : BoxAt W w.heap.size [.slice a0 c.recs.length p0,c.gv,c.tv,c.ev,c.cv]) (k : BoxAt W (w.heap.size + 1) [.func (.func 50) #[] #[.pointer (some ⟨w.heap.size,0,none⟩)]]) (m : BoxAt W (w.heap.size + 1 + 1) [.func (.func 52) #[] #[.pointer (some ⟨w.heap.size + 1,0,none⟩)]]) (hb : Below w.heap.size w W) =>
  none24_30 c.rv c.recs (fun _ r=>∀ (i : Nat) (x : Loc),r.flds[i]? = some x→cellOk c.recs.length x = true) (.pointer (some ⟨w.heap.size + 1 + 1,0,none⟩)) W (Rls.kept hc.1 hb) (by have:=hs.l1;omega)
   (fun W' j x h' hx ok=>fldsWrong_any _ _ _ a0 _ p0 c.gv c.tv c.ev c.cv j x.fv x.flds W' ok (by have:=hs.flds j x hx;omega) (h.kept h') (k.kept h') (m.kept h')))
 have D3:=hid (fun W (h : BoxAt W w.heap.size [.slice a0 c.recs.length p0,c.gv,c.tv,c.ev,c.cv]) (k : BoxAt W (w.heap.size + 1) [.func (.func 50) #[] #[.pointer (some ⟨w.heap.size,0,none⟩)]]) (hb : Below w.heap.size w W) =>
  none31_32 c.tv c.threads (fun _ t=>∀ (i : Nat) (x : Loc),t.slots[i]? = some x→locOk c.recs.length x = true) (.pointer (some ⟨w.heap.size + 1,0,none⟩)) W (Bds.kept hc.2.2.1 hb) (by have:=hs.l3;omega)
   (fun W' j x h' hx ok=>slotsWrong_any _ _ a0 _ p0 c.gv c.tv c.ev c.cv j x W' ok.2.1 (by have:=hs.slots j x hx;omega) (h.kept h') (k.kept h')))
 rw [e0] at *
 rw [e1,e2,e3,e4] at *
 clear e0 e1 e2 e3 e4 hs hc
 have hw : BoxAt (((w.alloc (.cells #[.slice a0 c.recs.length p0,.slice a1 c.globs.length p1,.slice a2 c.threads.length p2,.slice a3 c.sites.length p3,.slice a4 c.secs.length p4] 28)).alloc (.cells #[.func (.func 50) #[] #[.pointer (some ⟨w.heap.size,0,none⟩)]] 90)).alloc (.cells #[.func (.func 52) #[] #[.pointer (some ⟨w.heap.size + 1,0,none⟩)]] 90)) w.heap.size [.slice a0 c.recs.length p0,.slice a1 c.globs.length p1,.slice a2 c.threads.length p2,.slice a3 c.sites.length p3,.slice a4 c.secs.length p4]:=(K1.out.past _).past _
 have hk : BoxAt (((w.alloc (.cells #[.slice a0 c.recs.length p0,.slice a1 c.globs.length p1,.slice a2 c.threads.length p2,.slice a3 c.sites.length p3,.slice a4 c.secs.length p4] 28)).alloc (.cells #[.func (.func 50) #[] #[.pointer (some ⟨w.heap.size,0,none⟩)]] 90)).alloc (.cells #[.func (.func 52) #[] #[.pointer (some ⟨w.heap.size + 1,0,none⟩)]] 90)) (w.heap.size + 1) [.func (.func 50) #[] #[.pointer (some ⟨w.heap.size,0,none⟩)]]:=by
  have:=(BoxAt.new (w.alloc (.cells #[.slice a0 c.recs.length p0,.slice a1 c.globs.length p1,.slice a2 c.threads.length p2,.slice a3 c.sites.length p3,.slice a4 c.secs.length p4] 28)) #[.func (.func 50) #[] #[.pointer (some ⟨w.heap.size,0,none⟩)]] 90).past (.cells #[.func (.func 52) #[] #[.pointer (some ⟨w.heap.size + 1,0,none⟩)]] 90)
  simp only [World.size_alloc] at this
  exact this
 have hm : BoxAt (((w.alloc (.cells #[.slice a0 c.recs.length p0,.slice a1 c.globs.length p1,.slice a2 c.threads.length p2,.slice a3 c.sites.length p3,.slice a4 c.secs.length p4] 28)).alloc (.cells #[.func (.func 50) #[] #[.pointer (some ⟨w.heap.size,0,none⟩)]] 90)).alloc (.cells #[.func (.func 52) #[] #[.pointer (some ⟨w.heap.size + 1,0,none⟩)]] 90)) (w.heap.size + 1 + 1) [.func (.func 52) #[] #[.pointer (some ⟨w.heap.size + 1,0,none⟩)]]:=by
  have:=BoxAt.new ((w.alloc (.cells #[.slice a0 c.recs.length p0,.slice a1 c.globs.length p1,.slice a2 c.threads.length p2,.slice a3 c.sites.length p3,.slice a4 c.secs.length p4] 28)).alloc (.cells #[.func (.func 50) #[] #[.pointer (some ⟨w.heap.size,0,none⟩)]] 90)) #[.func (.func 52) #[] #[.pointer (some ⟨w.heap.size + 1,0,none⟩)]] 90
  simp only [World.size_alloc] at this
  exact this
 have hB:=hid (below3 w (.cells #[.slice a0 c.recs.length p0,.slice a1 c.globs.length p1,.slice a2 c.threads.length p2,.slice a3 c.sites.length p3,.slice a4 c.secs.length p4] 28) (.cells #[.func (.func 50) #[] #[.pointer (some ⟨w.heap.size,0,none⟩)]] 90) (.cells #[.func (.func 52) #[] #[.pointer (some ⟨w.heap.size + 1,0,none⟩)]] 90))
 replace hw:=hid hw
 replace hk:=hid hk
 replace hm:=hid hm
 go_enter Tryd.func34,Tryd.ntmps34
 go_wp2_with fail
 refine Calls.mono (D1.out _ hw.out hk.out hB.out) ?_
 rintro e w1 ⟨q1,rfl,hq1,hb1⟩
 have B1:=hid (bover hB.out hb1)
 have W1:=hid (hw.out.kept hb1)
 have N1:=hid (hk.out.kept hb1)
 have M1:=hid (hm.out.kept hb1)
 have cell4:=M1.out.2 0 _ rfl
 have cc0:=W1.out.2 0 _ rfl
 have cc1:=W1.out.2 1 _ rfl
 have cc2:=W1.out.2 2 _ rfl
 have s2:=hb1.size
 replace hq1:=hid hq1
 clear hw hk hm hB hb1 D1
 simp only [World.size_alloc] at s2
 cases q1
 ·have n1 : Hid (¬ localsP c):=hid (fun h=>by have:=hq1.out.2 h.1;cases this)
  clear hq1 D2 D3
  go_wp2_with fail
  go_ret
  exact exNo n1.out B1.out
 ·have y1:=hid (hq1.out.1 rfl)
  have C2:=hid (D2.out w1 W1.out N1.out M1.out B1.out)
  clear D2 hq1
  go_wp2_with fail
  refine Calls.mono C2.out ?_
  rintro e w2 ⟨q2,rfl,hq2,hb2⟩
  have B2:=hid (bover B1.out hb2)
  have W2:=hid (W1.out.kept hb2)
  have N2:=hid (N1.out.kept hb2)
  have dd2:=W2.out.2 2 _ rfl
  have s3:=hb2.size
  replace hq2:=hid hq2
  clear W1 N1 M1 B1 cell4 cc0 cc1 cc2 hb2 C2
  cases q2
  ·have n1 : Hid (¬ localsP c):=hid (fun h=>by have:=hq2.out.2 h.2.1;cases this)
   clear hq2 D3
   go_wp2_with fail
   go_ret
   exact exNo n1.out B2.out
  ·have y2:=hid (hq2.out.1 rfl)
   have C3:=hid (D3.out w2 W2.out N2.out B2.out)
   clear D3 hq2
   go_wp2_with fail
   refine Calls.mono C3.out ?_
   rintro e w3 ⟨q3,rfl,hq3,hb3⟩
   have B3:=hid (bover B2.out hb3)
   replace hq3:=hid hq3
   clear W2 N2 B2 dd2 hb3 C3
   go_wp2_with fail
   go_ret
   exact exB (hq3.out.trans ⟨fun h=>⟨y1.out,y2.out,h⟩,fun h=>h.2.2⟩) B3.out
end Go.Proofs.YtkdpcaoocmbbhaaDoor
/- Contract of instrAt. -/
namespace Go.Proofs.YtkdpcaoocmbbhaaDoor
open Go.ChangeShapes Go.WideShapes Go.ChangeAt Go.RowKit
set_option linter.unusedVariables false
set_option linter.unusedSimpArgs false

def Ins.val (x : Ins) : Value:=.agg #[.int .i64 x.op,.int .i64 x.dst,.int .i64 x.src,.int .i64 x.rc,.int .i64 x.n,.int .i64 x.to,x.iv,x.xv]

theorem insAt_no1 (c : Cd) (th pl : Int) (h : isIn th c.threads.length = false) : insAt c th pl = Ins.z:=by unfold insAt;rw [h];rfl
theorem insAt_no2 (c : Cd) (th pl : Int) (t : Bd) (ht : c.threads[th.toNat]? = some t) (h : isIn pl t.code.length = false) : insAt c th pl = Ins.z:=by
  unfold insAt
  rw [show c.threads.getD th.toNat Bd.z = t by simp [List.getD,ht],h,Bool.and_false];rfl
theorem insAt_yes (c : Cd) (th pl : Int) (t : Bd) (x : Ins) (h0 : 0≤th) (h1 : 0≤pl) (ht : c.threads[th.toNat]? = some t) (hx : t.code[pl.toNat]? = some x) : insAt c th pl = x:=by
  unfold insAt
  have e1 : isIn th c.threads.length = true:=by have:=(List.getElem?_eq_some_iff.1 ht).1;simp [isIn];omega
  have e2 : isIn pl t.code.length = true:=by have:=(List.getElem?_eq_some_iff.1 hx).1;simp [isIn];omega
  rw [show c.threads.getD th.toNat Bd.z = t by simp [List.getD,ht],e1,e2]
  simp [List.getD,hx]

theorem isIn_nat {n : Int} {m : Nat} (h : isIn n m = true) : ∃ k : Nat,n = k∧k < m:=by
  obtain ⟨h0,h1⟩:=isIn_iff.1 h
  obtain ⟨k,rfl⟩:=Int.eq_ofNat_of_zero_le h0
  exact ⟨k,rfl,by omega⟩

theorem bd_cells {w : World} {v : Value} {l : List Bd} (h : Bds w v l) : ∃ a cap,v = .slice a l.length cap∧∀ j,j < l.length→∃ x b off a1 p1 a2 p2,l[j]? = some x∧a = some ⟨b,off,none⟩∧b < w.heap.size∧x.sv = .slice a1 x.slots.length p1∧x.cv = .slice a2 x.code.length p2 ∧
    w.cell? ⟨b,off + j * 3,none⟩ = some (.slice a1 x.slots.length p1)∧w.cell? ⟨b,off + j * 3 + 1,none⟩ = some (.slice a2 x.code.length p2)∧w.cell? ⟨b,off + j * 3 + 2,none⟩ = some (.int .i64 x.most)∧x.okW w:=by
  obtain ⟨a,cap,e,hr⟩:=h.at
  refine ⟨a,cap,e,fun j hj=>?_⟩
  obtain ⟨x,b,off,hx,ha,hb,hc,ok⟩:=hr j hj
  obtain ⟨a1,p1,e1⟩:=ok.2.1.form
  obtain ⟨a2,p2,e2⟩:=ok.2.2.form
  exact ⟨x,b,off,a1,p1,a2,p2,hx,ha,hb,e1,e2,by have:=hc 0 _ rfl;rwa [e1] at this,by have:=hc 1 _ rfl;rwa [e2] at this,hc 2 _ rfl,ok⟩

theorem ins_cells {w : World} {v : Value} {l : List Ins} (h : Inss w v l) : ∃ a cap,v = .slice a l.length cap∧∀ j,j < l.length→∃ x b off a1 p1 a2 p2,l[j]? = some x∧a = some ⟨b,off,none⟩∧b < w.heap.size∧x.iv = .slice a1 x.items.length p1∧x.xv = .slice a2 x.index.length p2 ∧
    (w.cell? ⟨b,off + j * 8,none⟩ = some (.int .i64 x.op)∧w.cell? ⟨b,off + j * 8 + 1,none⟩ = some (.int .i64 x.dst)∧w.cell? ⟨b,off + j * 8 + 2,none⟩ = some (.int .i64 x.src)∧w.cell? ⟨b,off + j * 8 + 3,none⟩ = some (.int .i64 x.rc) ∧
     w.cell? ⟨b,off + j * 8 + 4,none⟩ = some (.int .i64 x.n)∧w.cell? ⟨b,off + j * 8 + 5,none⟩ = some (.int .i64 x.to)∧w.cell? ⟨b,off + j * 8 + 6,none⟩ = some (.slice a1 x.items.length p1)∧w.cell? ⟨b,off + j * 8 + 7,none⟩ = some (.slice a2 x.index.length p2))∧x.okW w:=by
  obtain ⟨a,cap,e,hr⟩:=h.at
  refine ⟨a,cap,e,fun j hj=>?_⟩
  obtain ⟨x,b,off,hx,ha,hb,hc,ok⟩:=hr j hj
  obtain ⟨a1,p1,e1⟩:=ok.2.1.form
  obtain ⟨a2,p2,e2⟩:=ok.2.2.form
  exact ⟨x,b,off,a1,p1,a2,p2,hx,ha,hb,e1,e2,⟨hc 0 _ rfl,hc 1 _ rfl,hc 2 _ rfl,hc 3 _ rfl,hc 4 _ rfl,hc 5 _ rfl,by have:=hc 6 _ rfl;rwa [e1] at this,by have:=hc 7 _ rfl;rwa [e2] at this⟩,ok⟩

theorem alloc_new2 (w : World) (o1 o2 : Obj) : ((w.alloc o1).alloc o2).heap[w.heap.size + 1]? = some o2:=by
  have:=heap_alloc_new (w.alloc o1) o2
  simpa only [World.size_alloc] using this

set_option maxRecDepth 100000 in
set_option maxHeartbeats 1000000 in
theorem instrAt_any (c : Cd) (th pl : Int) (w : World) (hc : c.okW w) (hs : SmallP c) :
    Calls Tryd.prog 59 #[.agg #[c.rv,c.gv,c.tv,c.ev,c.cv],.int .i64 th,.int .i64 pl] w fun e w'=>e = .returned (insAt c th pl).val∧Below w.heap.size w w':=by
  obtain ⟨a0,p0,a1,p1,a2,p2,a3,p3,a4,p4,e0,e1,e2,e3,e4⟩:=cd_open hc
  obtain ⟨a2',p2',e2',hr⟩:=bd_cells hc.2.2.1
  rw [e2] at e2'
  cases e2'
  have C:=hid (fun W=>place47_any th a2 c.threads.length p2 W)
  rw [e0,e1,e2,e3,e4]
  clear e0 e1 e2 e3 e4
  cases h1 : isIn th c.threads.length
  · have F:=hid (insAt_no1 c th pl h1)
    rw [h1] at C
    clear h1 hc hs hr
    go_enter Tryd.func59,Tryd.ntmps59
    go_wp2_with (go_at_call 70;refine Calls.mono (C.out _) ?_;rintro e w' ⟨rfl,rfl⟩)
    refine bodyPost_ret (results_cell_row rfl _ _ (w.heap.size + 1) _ _ _ _ rfl (alloc_new2 _ _ _) Tryd.underlying50 rfl (by kernel_rfl)) rfl ?_
    exact ⟨by rw [F.out];rfl,below2 _ _ _⟩
  · rw [h1] at C
    obtain ⟨t,rfl,ht⟩:=isIn_nat h1
    obtain ⟨x,b,off,q1,r1,q2,r2,hx,rfl,hb,es,ec,g0,g1,g2,ok⟩:=hr t ht
    obtain ⟨a5,p5,e5,hr5⟩:=ins_cells ok.2.2
    rw [ec] at e5
    cases e5
    have C2:=hid (fun W=>place48_any pl q2 x.code.length r2 W)
    have ht' : (t : Int) < (c.threads.length : Int):=by omega
    have hl3:=hs.l3
    have hl4:=hs.code t x hx
    cases h2 : isIn pl x.code.length
    · have F:=hid (insAt_no2 c t pl x (by simpa using hx) h2)
      rw [h2] at C2
      clear h1 h2 hc hs hr hx es ec ok hr5
      go_enter Tryd.func59,Tryd.ntmps59
      go_wp2_with (first | (go_at_call 70;refine Calls.mono (C.out _) ?_;rintro e w' ⟨rfl,rfl⟩) | (go_at_call 71;refine Calls.mono (C2.out _) ?_;rintro e w' ⟨rfl,rfl⟩))
      refine bodyPost_ret (results_cell_row rfl _ _ (w.heap.size + 1) _ _ _ _ rfl (alloc_new2 _ _ _) Tryd.underlying50 rfl (by kernel_rfl)) rfl ?_
      exact ⟨by rw [F.out];rfl,below2 _ _ _⟩
    · rw [h2] at C2
      obtain ⟨k,rfl,hk⟩:=isIn_nat h2
      obtain ⟨y,b',off',s1,u1,s2,u2,hy,rfl,hb',ei,ex,⟨d0,d1,d2,d3,d4,d5,d6,d7⟩,ok'⟩:=hr5 k hk
      have F:=hid (insAt_yes c t k x y (by omega) (by omega) (by simpa using hx) (by simpa using hy))
      have V : Hid (y.val = .agg #[.int .i64 y.op,.int .i64 y.dst,.int .i64 y.src,.int .i64 y.rc,.int .i64 y.n,.int .i64 y.to,.slice s1 y.items.length u1,.slice s2 y.index.length u2]):=hid (by unfold Ins.val;rw [ei,ex])
      have hk' : (k : Int) < (x.code.length : Int):=by omega
      clear h1 h2 hc hs hr hx es ec ok hr5 hy ei ex ok'
      go_enter Tryd.func59,Tryd.ntmps59
      go_wp2_with (first | (go_at_call 70;refine Calls.mono (C.out _) ?_;rintro e w' ⟨rfl,rfl⟩) | (go_at_call 71;refine Calls.mono (C2.out _) ?_;rintro e w' ⟨rfl,rfl⟩))
      refine bodyPost_ret (results_cell_row rfl _ _ (w.heap.size + 1) _ _ _ _ rfl (alloc_new2 _ _ _) Tryd.underlying50 rfl (by kernel_rfl)) rfl ?_
      exact ⟨by rw [F.out,V.out],below2 _ _ _⟩
end Go.Proofs.YtkdpcaoocmbbhaaDoor
/- Boxes in a region that draws its order: what stays behind calls, allocs and stores; laws for a call and a store there. -/
namespace Go.Proofs.YtkdpcaoocmbbhaaDoor
open Go.ChangeShapes Go.WideShapes Go.ChangeAt Go.RowKit
set_option linter.unusedVariables false

/-- A block of type t holds these cells. -/
def VarAt (w : World) (b : Nat) (cs : List Value) (t : TypeId) : Prop:=w.heap[b]? = some (.cells cs.toArray t (0,0))
theorem VarAt.lt {w : World} {b : Nat} {cs : List Value} {t : TypeId} (h : VarAt w b cs t) : b < w.heap.size:=(Array.getElem?_eq_some_iff.1 h).1
theorem VarAt.new (w : World) (cs : List Value) (t : TypeId) : VarAt (w.alloc (.cells cs.toArray t)) w.heap.size cs t:=heap_alloc_new _ _
theorem VarAt.kept {w w' : World} {b : Nat} {cs : List Value} {t : TypeId} (h : VarAt w b cs t) (k : Below w.heap.size w w') : VarAt w' b cs t:=(k.block b h.lt).trans h
theorem VarAt.past {w : World} {b : Nat} {cs : List Value} {t : TypeId} (h : VarAt w b cs t) (o : Obj) : VarAt (w.alloc o) b cs t:=h.kept ((Below.refl _ _).alloc (Nat.le_refl _) o)
theorem VarAt.box {w : World} {b : Nat} {cs : List Value} {t : TypeId} (h : VarAt w b cs t) : BoxAt w b cs:=⟨h.lt,fun k u hk=>by
 rw [cell_of_row _ _ k _ _ _ h]
 simpa using hk⟩
theorem VarAt.frozen {w : World} {b : Nat} {cs : List Value} {t : TypeId} (h : VarAt w b cs t) (j : Nat) : w.frozen? ⟨b,j,none⟩ = false:=by
 have h : w.heap[b]? = some (.cells cs.toArray t (0,0)):=h
 simp [World.frozen?,h]
theorem VarAt.set {w : World} {b : Nat} {cs : List Value} {t : TypeId} (h : VarAt w b cs t) (j : Nat) (v : Value) : VarAt (w.setCell ⟨b,j,none⟩ v) b (cs.set j v) t:=by
 have h : w.heap[b]? = some (.cells cs.toArray t (0,0)):=h
 simp only [VarAt,World.setCell,Array.getElem?_modify]
 simp [h]

/-- Cells, some of them put anew. -/
def splice : List Value→Nat→List Value→List Value
 | cs,_,[]=>cs
 | cs,o,v :: r=>splice (cs.set o v) (o + 1) r
theorem VarAt.sets {b : Nat} {t : TypeId} : ∀ (ds : List Value) (o : Nat) (w : World) (cs : List Value),VarAt w b cs t→VarAt (w.setCells b o ds) b (splice cs o ds) t
 | [],_,_,_,h=>h
 | v :: r,o,w,cs,h=>VarAt.sets r (o + 1) _ _ (h.set o v)

theorem size_drew (w : World) : w.drew.heap.size = w.heap.size:=rfl

/-- Nothing but block b has turned. -/
structure Turned (b : Nat) (w w' : World) : Prop where
 os : w'.os = w.os
 tape : w'.tape = w.tape
 output : w'.output = w.output
 size : w'.heap.size = w.heap.size
 block : ∀ k,k ≠ b→w'.heap[k]? = w.heap[k]?
theorem Turned.refl (b : Nat) (w : World) : Turned b w w:=⟨rfl,rfl,rfl,rfl,fun _ _=>rfl⟩
theorem Turned.sets (b : Nat) : ∀ (ds : List Value) (o : Nat) (w : World),Turned b w (w.setCells b o ds)
 | [],_,w=>Turned.refl b w
 | v :: r,o,w=>by
  have h:=Turned.sets b r (o + 1) (w.setCell ⟨b,o,none⟩ v)
  refine ⟨h.os,h.tape,h.output,h.size.trans (by simp [World.setCell]),fun k hk=>(h.block k hk).trans (Below.heap_setCell _ _ _ _ hk)⟩
theorem Turned.var {p b : Nat} {w w' : World} {cs : List Value} {t : TypeId} (h : Turned p w w') (k : VarAt w b cs t) (hb : b ≠ p) : VarAt w' b cs t:=(h.block b hb).trans k
theorem Turned.box {p b : Nat} {w w' : World} {cs : List Value} (h : Turned p w w') (k : BoxAt w b cs) (hb : b ≠ p) : BoxAt w' b cs :=
 ⟨by rw [h.size];exact k.1,fun j u hj=>(World.cell?_of_block (a:=⟨b,j,none⟩) (h.block b hb)).trans (k.2 j u hj)⟩
theorem Turned.below {p : Nat} {w0 w w' : World} (h : Turned p w w') (k : Below w0.heap.size w0 w) (hp : w0.heap.size≤p) : Below w0.heap.size w0 w' :=
 ⟨h.os.trans k.os,h.tape.trans k.tape,h.output.trans k.output,by rw [h.size];exact k.size,fun j hj=>(h.block j (by omega)).trans (k.block j hj)⟩

/-- The world behind some steps: the code's box, the section's box (laid first). -/
structure Rg (w : World) (b : Nat) (v0 v1 v2 v3 v4 u0 u1 u2 : Value) (W : World) : Prop where
 bel : Below w.heap.size w W
 lt : b < w.heap.size
 k5 : BoxAt W b [v0,v1,v2,v3,v4]
 s3 : BoxAt W w.heap.size [u0,u1,u2]
theorem BoxAt.drew {w : World} {b : Nat} {cs : List Value} (h : BoxAt w b cs) : BoxAt w.drew b cs:=h.kept (Below.refl _ _).drew
section
variable {w W W' : World} {b : Nat} {v0 v1 v2 v3 v4 u0 u1 u2 : Value}
theorem Rg.kept (h : Rg w b v0 v1 v2 v3 v4 u0 u1 u2 W) (k : Below W.heap.size W W') : Rg w b v0 v1 v2 v3 v4 u0 u1 u2 W':=⟨h.bel.trans (k.mono h.bel.size),h.lt,h.k5.kept k,h.s3.kept k⟩
theorem Rg.past (h : Rg w b v0 v1 v2 v3 v4 u0 u1 u2 W) (o : Obj) : Rg w b v0 v1 v2 v3 v4 u0 u1 u2 (W.alloc o):=h.kept ((Below.refl _ _).alloc (Nat.le_refl _) o)
theorem Rg.drew (h : Rg w b v0 v1 v2 v3 v4 u0 u1 u2 W) : Rg w b v0 v1 v2 v3 v4 u0 u1 u2 W.drew:=⟨h.bel.drew,h.lt,h.k5.drew,h.s3.drew⟩
theorem Turned.rg {p : Nat} (h : Turned p W W') (k : Rg w b v0 v1 v2 v3 v4 u0 u1 u2 W) (hp : w.heap.size < p) : Rg w b v0 v1 v2 v3 v4 u0 u1 u2 W' :=
 ⟨h.below k.bel (by omega),k.lt,h.box k.k5 (by have:=k.lt;omega),h.box k.s3 (by omega)⟩
theorem Rg.box (h : Rg w b v0 v1 v2 v3 v4 u0 u1 u2 W) : W.cell? ⟨b,0,none⟩ = some v0∧W.cell? ⟨b,1,none⟩ = some v1∧W.cell? ⟨b,2,none⟩ = some v2∧W.cell? ⟨b,3,none⟩ = some v3∧W.cell? ⟨b,4,none⟩ = some v4∧W.cell? ⟨w.heap.size,0,none⟩ = some u0∧W.cell? ⟨w.heap.size,1,none⟩ = some u1∧W.cell? ⟨w.heap.size,2,none⟩ = some u2 :=
 ⟨h.k5.2 0 _ rfl,h.k5.2 1 _ rfl,h.k5.2 2 _ rfl,h.k5.2 3 _ rfl,h.k5.2 4 _ rfl,h.s3.2 0 _ rfl,h.s3.2 1 _ rfl,h.s3.2 2 _ rfl⟩
end

/-- A call of three in a region that draws its order, by its contract. -/
theorem step_call3 {ops : Array Oper} {o : Oper} {a : Act} {w : World} {K : Act→World→Prop} {Q : Exit→Act→World→Prop} {E : Prop} (f : Nat) (ef : ∀ args w,(callFunc f args).run Tryd.prog w = .ok (.enter f args) w)
  (hw : Region.wanted o (yielded ops a.tmps) = true) (x y z : Operand) (ts : Array TypeId) (ho : o.op = .call { callee:=.value (.func f),args:=#[x,y,z],argTypes:=ts }) (vx vy vz : Value) (hx : a.eval x = vx) (hy : a.eval y = vy) (hz : a.eval z = vz)
  {v : Value} (C : Calls Tryd.prog f #[vx,vy,vz] w fun e w'=>e = .returned v∧Below w.heap.size w w') (h : ∀ r w',(r = v∧Below w.heap.size w w')→K (a.put o.dst r) w') :
  if Region.wanted o (yielded ops a.tmps) = true then Oper.wp Tryd.prog o a w K Q else E:=by
 rw [if_pos hw]
 unfold Oper.wp execOp
 have e : a.eval (.func f) = .func (.func f) #[] #[]:=rfl
 have hv : #[x,y,z].map a.eval = #[vx,vy,vz]:=by simp [hx,hy,hz]
 simp only [ho,resolve,hv,e,Deferred.ofValue,invoke,Sem.run_bind,Sem.run_pure,Result.andThen_ok,Array.append_empty,ef]
 simp
 rw [Oper.upon_enter]
 refine C.mono ?_
 rintro e w' ⟨rfl,hR⟩
 exact h _ w' ⟨rfl,hR⟩

/-- A struct goes into a box of its own. -/
theorem step_store {ops : Array Oper} {o : Oper} {a : Act} {w : World} {K : Act→World→Prop} {Q : Exit→Act→World→Prop} {E : Prop} (ty : TypeId) (x y : Operand) (ho : o.op = .store ty x y)
  (hw : Region.wanted o (yielded ops a.tmps) = true) (b : Nat) (hx : a.eval x = .pointer (some ⟨b,0,none⟩)) (cs : List Value) (hy : a.eval y = .agg cs.toArray) (hi : (Tryd.prog.info? ty).map (·.size) = some cs.length) (h1 : ∀ v ∈ cs,v.oneCell' = true)
  (old : List Value) (t : TypeId) (hv : VarAt w b old t) (hl : old.length = cs.length) (hs : splice old 0 cs = cs) (h : ∀ w',VarAt w' b cs t→Turned b w w'→K (a.put o.dst undef) w') :
  if Region.wanted o (yielded ops a.tmps) = true then Oper.wp Tryd.prog o a w K Q else E:=by
 rw [if_pos hw]
 refine wp_store_mid ty x y ho b 0 cs.toArray hx hy ?_ (by simpa using hi) (all_oneCell_toArray h1) ?_
 ·intro j hj
  refine ⟨?_,hv.frozen _⟩
  rw [hv.box.2 (0 + j) (old[0 + j]'(by simp at hj;omega)) (by simp)]
  rfl
 ·refine h _ ?_ ?_
  ·have:=VarAt.sets cs 0 w old hv
   rwa [hs] at this
  ·exact Turned.sets b cs 0 w
end Go.Proofs.YtkdpcaoocmbbhaaDoor
/- append of a whole row of structs that is only read, nil or not, onto a row that the call owns. -/
namespace Go.Proofs.YtkdpcaoocmbbhaaDoor
open Go.ChangeShapes Go.WideShapes Go.ChangeAt Go.RowKit Go.Deep
set_option linter.unusedVariables false

theorem flat_len {α : Type} (f : α→List Value) (s : Nat) (hs : ∀ x,(f x).length = s) (l : List α) : (l.flatMap f).length = l.length * s:=by
 induction l with
 | nil=>simp
 | cons a l ih=>simp only [List.flatMap_cons,List.length_append,ih,hs,List.length_cons];rw [Nat.add_mul];omega
theorem flat_get {α : Type} (f : α→List Value) (s : Nat) (hs : ∀ x,(f x).length = s) (l : List α) (k : Nat) (x : α) (hk : l[k]? = some x) (j : Nat) (v : Value) (hj : (f x)[j]? = some v) : (l.flatMap f)[k * s + j]? = some v:=by
 induction l generalizing k with
 | nil=>simp at hk
 | cons a l ih =>
  have hjs : j < s:=by
   have:=(List.getElem?_eq_some_iff.1 hj).1
   rw [hs] at this
   exact this
  simp only [List.flatMap_cons,List.getElem?_append,hs]
  cases k with
  | zero =>
   simp at hk
   subst hk
   rw [if_pos (by omega)]
   simpa using hj
  | succ k =>
   have e : (k + 1) * s + j - s = k * s + j:=by rw [Nat.add_mul];omega
   rw [if_neg (by rw [Nat.add_mul];omega),e]
   exact ih k (by simpa using hk)

theorem run_append_none (w : World) (t ty : TypeId) (base : Nat) (e : TypeId) (i : TypeInfo) (size : Nat) (ht : Tryd.prog.underlying t = some (.slice e)) (hi : Tryd.prog.info? e = some i)
  (v : Value) (n : Nat) (xs : List Value) (hown : w.ownsRow base e size v n xs) : (Builtin.append_ #[t,t] ty #[v,.slice none 0 0]).run Tryd.prog w = .ok v w:=by
 rcases hown.2 with ⟨rfl,rfl⟩ | ⟨g,cap,cur,rfl,hbg,hg,hnc,hcm,hcs,htake⟩
 ·simp [Builtin.append_,run_underlying ht,sizeOf,typeInfo,hi,Builtin.lenOf,Builtin.firstCells]
 ·simp [Builtin.append_,run_underlying ht,sizeOf,typeInfo,hi,Builtin.lenOf,Builtin.firstCells,storeCells,hnc]

theorem run_append_row (w : World) (t ty : TypeId) (base : Nat) (e : TypeId) (i : TypeInfo) (z : Value) (size bytes : Nat) (ht : Tryd.prog.underlying t = some (.slice e)) (hi : Tryd.prog.info? e = some i) (hz : i.zero = some z)
  (hsize : i.size = size) (hby : i.bytes = bytes) (hzs : z.cells.size = size) (hsz : 0 < size)
  (v : Value) (n : Nat) (xs : List Value) (hown : w.ownsRow base e size v n xs) {α : Type} {cells : α→List Value} {ok : World→α→Prop} (hcs : ∀ x,(cells x).length = size) (u : Value) (l : List α) (hu : RowOf cells size ok w u l) (h1 : ∀ x ∈ l.flatMap cells,x.oneCell' = true)
  (h63 : n + l.length≤2000000) (hbytes : bytes≤1000) (hbase : base≤w.heap.size) :
  ∃ v' w',(Builtin.append_ #[t,t] ty #[v,u]).run Tryd.prog w = .ok v' w'∧w'.ownsRow base e size v' (n + l.length) (xs ++ l.flatMap cells)∧w.grownBy w' v.ownBlock∧(v'.ownBlock = v.ownBlock∨v'.ownBlock = some w.heap.size):=by
 obtain ⟨ad,cap,rfl,hlc,hcm,_,hnil,hel⟩:=hu
 cases ad with
 | none =>
  obtain ⟨rfl,rfl⟩:=hnil rfl
  exact ⟨v,w,run_append_none w t ty base e i size ht hi v n xs hown,by simpa using hown,⟨rfl,rfl,rfl,Nat.le_refl _,fun _ _ _=>rfl⟩,.inl rfl⟩
 | some p =>
  have hmul : (n + l.length) * bytes≤2000000 * 1000:=Nat.mul_le_mul h63 hbytes
  obtain ⟨v',w',hr,h2,h3,_,h5⟩:=run_append_own_at (P:=Tryd.prog) w base t ty e i z size bytes ht hi hz hsize hby hzs hsz v n xs hown p l.length cap (l.flatMap cells) (flat_len cells size hcs l) (fun j x hx=>by
   have hjl : j < l.length * size:=by have:=(List.getElem?_eq_some_iff.1 hx).1;rwa [flat_len cells size hcs l] at this
   have hq : j / size < l.length:=Nat.div_lt_of_lt_mul (by rwa [Nat.mul_comm])
   have hm : j % size < size:=Nat.mod_lt _ hsz
   have hlq : l[j / size]? = some l[j / size]:=by simp [hq]
   have hcc : (cells l[j / size])[j % size]? = some ((cells l[j / size])[j % size]'(by rw [hcs];exact hm)):=by simp
   have:=flat_get cells size hcs l (j / size) _ hlq (j % size) _ hcc
   rw [show j / size * size + j % size = j by rw [Nat.mul_comm];exact Nat.div_add_mod j size] at this
   rw [this] at hx
   cases hx
   obtain ⟨b,off,e1,hb,hr,_⟩:=hel (j / size) _ hlq
   cases e1
   have h:=hr (j % size) _ hcc
   rw [Nat.add_assoc,show j / size * size + j % size = j by rw [Nat.mul_comm];exact Nat.div_add_mod j size] at h
   simpa only [add_plain] using h) h1 (by simp only [maxLen];omega) (by omega) hbase
  exact ⟨v',w',hr,h2,h3,h5⟩

theorem wp_append_row {w : World} {o : Oper} {a : Act} {K : Act→World→Prop} {Q : Exit→Act→World→Prop} (s x : Operand) (t : TypeId)
  (ho : o.op = .call ⟨.builtin .append,#[s,x],#[t,t]⟩)
  (base : Nat) (e : TypeId) (z : Value) (size bytes : Nat) (ht : Tryd.prog.underlying t = some (.slice e)) (hinf : (Tryd.prog.info? e).map (fun i=>(i.zero,i.size,i.bytes)) = some (some z,size,bytes)) (hzs : z.cells.size = size) (hsz : 0 < size)
  (v : Value) (hs : a.eval s = v) (n : Nat) (xs : List Value) (hown : w.ownsRow base e size v n xs) (u : Value) (hx : a.eval x = u) {α : Type} {cells : α→List Value} {ok : World→α→Prop} (hcs : ∀ x,(cells x).length = size) (l : List α) (hu : RowOf cells size ok w u l) (h1 : ∀ x ∈ l.flatMap cells,x.oneCell' = true)
  (h63 : n + l.length≤2000000) (hbytes : bytes≤1000) (hbase : base≤w.heap.size)
  (h : ∀ v' w',w'.ownsRow base e size v' (n + l.length) (xs ++ l.flatMap cells)→w.grownBy w' v.ownBlock→(v'.ownBlock = v.ownBlock∨v'.ownBlock = some w.heap.size)→K (a.put o.dst v') w') : o.wp Tryd.prog a w K Q:=by
 obtain ⟨i,hi,z0,z1,z2⟩:=info_parts hinf
 obtain ⟨v',w',hr,h2,h3,h4⟩:=run_append_row w t o.type base e i z size bytes ht hi z0 z1 z2 hzs hsz v n xs hown hcs u l hu h1 h63 hbytes hbase
 unfold Oper.wp execOp
 simp only [ho,resolve,invoke,builtin,Sem.run_bind,Sem.run_pure,Result.andThen_ok,List.map_toArray,List.map_cons,List.map_nil,hs,hx,hr]
 exact h v' w' h2 h3 h4

/-- In a plain region. -/
theorem wl_append_row {w : World} {ops : Array Oper} {rest : List Oper} {o : Oper} {a : Act} {Q : Exit→Act→World→Prop} (hgd : o.guard = none) (s x : Operand) (t : TypeId)
  (ho : o.op = .call ⟨.builtin .append,#[s,x],#[t,t]⟩)
  (base : Nat) (e : TypeId) (z : Value) (size bytes : Nat) (ht : Tryd.prog.underlying t = some (.slice e)) (hinf : (Tryd.prog.info? e).map (fun i=>(i.zero,i.size,i.bytes)) = some (some z,size,bytes)) (hzs : z.cells.size = size) (hsz : 0 < size)
  (v : Value) (hs : a.eval s = v) (n : Nat) (xs : List Value) (hown : w.ownsRow base e size v n xs) (u : Value) (hx : a.eval x = u) {α : Type} {cells : α→List Value} {ok : World→α→Prop} (hcs : ∀ x,(cells x).length = size) (l : List α) (hu : RowOf cells size ok w u l) (h1 : ∀ x ∈ l.flatMap cells,x.oneCell' = true)
  (h63 : n + l.length≤2000000) (hbytes : bytes≤1000) (hbase : base≤w.heap.size)
  (h : ∀ v' w',w'.ownsRow base e size v' (n + l.length) (xs ++ l.flatMap cells)→w.grownBy w' v.ownBlock→(v'.ownBlock = v.ownBlock∨v'.ownBlock = some w.heap.size)→wpList Tryd.prog ops Q rest (a.put o.dst v') w') : wpList Tryd.prog ops Q (o :: rest) a w :=
 wpList_plain hgd fun _ hK=>wp_append_row s x t ho base e z size bytes ht hinf hzs hsz v hs n xs hown u hx hcs l hu h1 h63 hbytes hbase fun v' w' h2 h3 h4=>hK _ _ (h v' w' h2 h3 h4)

theorem own_slice {w : World} {base : Nat} {e : TypeId} {size n : Nat} {v : Value} {xs : List Value} (h : w.ownsRow base e size v n xs) : ∃ p c,v = .slice p n c:=by
 rcases h.2 with ⟨rfl,rfl⟩ | ⟨g,cap,cur,rfl,_⟩
 ·exact ⟨_,_,rfl⟩
 ·exact ⟨_,_,rfl⟩
end Go.Proofs.YtkdpcaoocmbbhaaDoor
/- A region in the text's order whose guards are Booleans that are letters: each operation by a law, both ways at once: nothing is parted. -/
namespace Go.Proofs.YtkdpcaoocmbbhaaDoor
open Go.ChangeShapes Go.WideShapes Go.ChangeAt Go.RowKit
set_option linter.unusedVariables false
set_option linter.unusedSimpArgs false

/-- A value, where it was wanted; none, where it wasn't. -/
def ow (e : Bool) (v : Value) : Value:=bif e then v else undef
theorem ow_t {e : Bool} {v x : Value} (hx : x = ow e v) (h : e = true) : x = v:=by rw [hx,h];rfl

section
variable {ops : Array Oper} {Q : Exit→Act→World→Prop} {o : Oper} {rest : List Oper} {a : Act} {w : World}

theorem wl_plain (v : Value) (hg : o.guard = none) (hr : (execOp a.eval o).run Tryd.prog w = .ok (.value v) w) (h : wpList Tryd.prog ops Q rest (a.put o.dst v) w) : wpList Tryd.prog ops Q (o :: rest) a w:=by
 refine wpList_plain hg fun K hK=>?_
 unfold Oper.wp
 rw [hr]
 exact hK _ _ h

theorem wl_if (e : Bool) (v : Value) (hw : Region.wanted o (yielded ops a.tmps) = e) (hr : e = true→(execOp a.eval o).run Tryd.prog w = .ok (.value v) w)
  (h : wpList Tryd.prog ops Q rest (a.put o.dst (ow e v)) w) : wpList Tryd.prog ops Q (o :: rest) a w:=by
 refine wpList_step fun K hK=>?_
 rw [hw]
 cases e
 ·simp only [Bool.false_eq_true,if_false]
  exact hK _ _ h
 ·simp only [if_true]
  unfold Oper.wp
  rw [hr rfl]
  exact hK _ _ h

theorem exec_call (f : Nat) (ef : ∀ args w,(callFunc f args).run Tryd.prog w = .ok (.enter f args) w) (xs : Array Operand) (ts : Array TypeId) (ho : o.op = .call { callee:=.value (.func f),args:=xs,argTypes:=ts }) (vs : Array Value) (hv : xs.map a.eval = vs) :
  (execOp a.eval o).run Tryd.prog w = .ok (.enter f vs) w:=by
 unfold execOp
 have e : a.eval (.func f) = .func (.func f) #[] #[]:=rfl
 simp only [ho,resolve,hv,e,Deferred.ofValue,invoke,Sem.run_bind,Sem.run_pure,Result.andThen_ok,Array.append_empty,ef]
 simp

/-- A call that only reckons. -/
theorem wl_call (f : Nat) (ef : ∀ args w,(callFunc f args).run Tryd.prog w = .ok (.enter f args) w) (xs : Array Operand) (ts : Array TypeId) (vs : Array Value) (e : Bool) (v : Value)
  (ho : o.op = .call { callee:=.value (.func f),args:=xs,argTypes:=ts }) (hw : Region.wanted o (yielded ops a.tmps) = e) (hv : e = true→xs.map a.eval = vs)
  (C : Calls Tryd.prog f vs w fun x w'=>x = .returned v∧w' = w)
  (h : wpList Tryd.prog ops Q rest (a.put o.dst (ow e v)) w) : wpList Tryd.prog ops Q (o :: rest) a w:=by
 refine wpList_step fun K hK=>?_
 rw [hw]
 cases e
 ·simp only [Bool.false_eq_true,if_false]
  exact hK _ _ h
 ·simp only [if_true]
  unfold Oper.wp
  rw [exec_call f ef xs ts ho vs (hv rfl),Oper.upon_enter]
  refine C.mono ?_
  rintro x w' ⟨rfl,rfl⟩
  exact hK _ _ h

/-- A call that makes memory of its own. -/
theorem wl_callB (f : Nat) (ef : ∀ args w,(callFunc f args).run Tryd.prog w = .ok (.enter f args) w) (xs : Array Operand) (ts : Array TypeId) (vs : Array Value) (e : Bool) (v : Value)
  (ho : o.op = .call { callee:=.value (.func f),args:=xs,argTypes:=ts }) (hw : Region.wanted o (yielded ops a.tmps) = e) (hv : e = true→xs.map a.eval = vs)
  (C : e = true→Calls Tryd.prog f vs w fun x w'=>x = .returned v∧Below w.heap.size w w')
  (h : ∀ w',Below w.heap.size w w'→wpList Tryd.prog ops Q rest (a.put o.dst (ow e v)) w') : wpList Tryd.prog ops Q (o :: rest) a w:=by
 refine wpList_step fun K hK=>?_
 rw [hw]
 cases e
 ·simp only [Bool.false_eq_true,if_false]
  exact hK _ _ (h w (Below.refl _ _))
 ·simp only [if_true]
  unfold Oper.wp
  rw [exec_call f ef xs ts ho vs (hv rfl),Oper.upon_enter]
  refine (C rfl).mono ?_
  rintro x w' ⟨rfl,hb⟩
  exact hK _ _ (h w' hb)
end

section
variable {ρ : Operand→Value} {o : Oper} {w : World}
theorem ex_move {x : Operand} {v : Value} (ho : o.op = .move x) (hx : ρ x = v) : (execOp ρ o).run Tryd.prog w = .ok (.value v) w:=by unfold execOp;rw [ho,← hx];rfl
theorem ex_not {x : Operand} {t : TypeId} {b : Bool} (ho : o.op = .unOp .not t x) (hx : ρ x = .bool b) : (execOp ρ o).run Tryd.prog w = .ok (.value (.bool (!b))) w:=by
 unfold execOp;rw [ho];simp only [hx];rfl
theorem ex_and {x y z : Operand} {b c : Bool} (ho : o.op = .pick x y z) (hx : ρ x = .bool b) (hy : b = true→ρ y = .bool c) (hz : ρ z = .bool false) : (execOp ρ o).run Tryd.prog w = .ok (.value (.bool (b && c))) w:=by
 unfold execOp;rw [ho];simp only [hx]
 cases b
 ·simp only [hz];rfl
 ·simp only [hy rfl];rfl
theorem ex_or {x y z : Operand} {b c : Bool} (ho : o.op = .pick x y z) (hx : ρ x = .bool b) (hy : b = false→ρ z = .bool c) (hz : ρ y = .bool true) : (execOp ρ o).run Tryd.prog w = .ok (.value (.bool (b || c))) w:=by
 unfold execOp;rw [ho];simp only [hx]
 cases b
 ·simp only [hy rfl];rfl
 ·simp only [hz];rfl
theorem ex_load1 {x : Operand} {t : TypeId} {p : Nat × Nat} {v : Value} (ho : o.op = .load t x) (hx : ρ x = .pointer (some ⟨p.1,p.2,none⟩)) (hl : (Instr.loadAt t (.pointer (some ⟨p.1,p.2,none⟩))).run Tryd.prog w = .ok v w) : (execOp ρ o).run Tryd.prog w = .ok (.value v) w:=by
 unfold execOp;rw [ho];simp only [hx,Sem.run_bind,hl,Result.andThen_ok];rfl
theorem ld3 {b k : Nat} {n : Int} (h : w.cell? ⟨b,k,none⟩ = some (.int .i64 n)) : (Instr.loadAt 3 (.pointer (some ⟨b,k,none⟩))).run Tryd.prog w = .ok (.int .i64 n) w:=by
 go_simp
theorem ld31 {b k : Nat} {a : Option Addr} {n c : Nat} (h : w.cell? ⟨b,k,none⟩ = some (.slice a n c)) : (Instr.loadAt 48 (.pointer (some ⟨b,k,none⟩))).run Tryd.prog w = .ok (.slice a n c) w:=by
 go_simp
theorem ex_neq0 {x y : Operand} {n m : Int} (ho : o.op = .binOp .neq 3 x y 3) (hx : ρ x = .int .i64 n) (hy : ρ y = .int .i64 m) : (execOp ρ o).run Tryd.prog w = .ok (.value (.bool (n != m))) w:=by
 unfold execOp;rw [ho];simp only [hx,hy]
 go_simp
end

theorem ow_true (v : Value) : ow true v = v:=rfl
theorem args2 {a : Act} {x y : Operand} {v u : Value} (h : a.eval x = v) (k : a.eval y = u) : #[x,y].map a.eval = #[v,u]:=by simp [h,k]
theorem wn_n {ops : Array Oper} {o : Oper} {tmps : Array Value} (hg : o.guard = none) : Region.wanted o (yielded ops tmps) = true:=by simp [Region.wanted,hg]
theorem and_i {a b : Bool} (h : a = true) (k : b = true) : (a && b) = true:=by rw [h,k];rfl
theorem not_f {a : Bool} (h : a = false) : (!a) = true:=by rw [h];rfl
section
variable {ops : Array Oper} {o : Oper} {tmps : Array Value} {j d : Nat} {e x : Bool}
theorem wn_t (hg : o.guard = some (j,true)) (hj : (ops[j]?).bind (·.dst) = some d) (hs : tmps[d]? = some (.bool x)) : Region.wanted o (yielded ops tmps) = x:=by
 have hy : yielded ops tmps j = some x:=by unfold yielded;rw [hj];simp only [Option.bind,hs]
 simp only [Region.wanted,hg,hy];cases x <;> rfl
theorem wn_f (hg : o.guard = some (j,false)) (hj : (ops[j]?).bind (·.dst) = some d) (hs : tmps[d]? = some (.bool x)) : Region.wanted o (yielded ops tmps) = !x:=by
 have hy : yielded ops tmps j = some x:=by unfold yielded;rw [hj];simp only [Option.bind,hs]
 simp only [Region.wanted,hg,hy];cases x <;> rfl
theorem wo_t (hg : o.guard = some (j,true)) (hj : (ops[j]?).bind (·.dst) = some d) (hs : tmps[d]? = some (ow e (.bool x))) : Region.wanted o (yielded ops tmps) = (e && x):=by
 cases e
 ·have hy : yielded ops tmps j = none:=by unfold yielded;rw [hj];simp only [Option.bind,hs];rfl
  simp only [Region.wanted,hg,hy];rfl
 ·have hy : yielded ops tmps j = some x:=by unfold yielded;rw [hj];simp only [Option.bind,hs];rfl
  simp only [Region.wanted,hg,hy];cases x <;> rfl
end
section
variable {ρ : Operand→Value} {o : Oper} {w : World}
theorem ex_field {s : TypeId} {x : Operand} {b off f d : Nat} (ho : o.op = .fieldAddr s x f) (hx : ρ x = .pointer (some ⟨b,off,none⟩)) (hf : (Instr.fieldAt s (.pointer (some ⟨b,off,none⟩)) f).run Tryd.prog w = .ok (.pointer (some ⟨b,d,none⟩)) w) : (execOp ρ o).run Tryd.prog w = .ok (.value (.pointer (some ⟨b,d,none⟩))) w:=by
 unfold execOp;rw [ho];simp only [hx,Sem.run_bind,hf,Result.andThen_ok];rfl
theorem ex_len {x : Operand} {a : Option Addr} {n c : Nat} {T ty : TypeId} (ho : o.op = .call ⟨.builtin .len,#[x],#[T]⟩) (hty : o.type = ty) (hx : ρ x = .slice a n c) (hl : (Builtin.len_ #[T] ty #[.slice a n c]).run Tryd.prog w = .ok (.int .i64 n) w) : (execOp ρ o).run Tryd.prog w = .ok (.value (.int .i64 n)) w:=by
 unfold execOp;rw [ho,hty]
 have hv : #[x].map ρ = #[.slice a n c]:=by simp [hx]
 simp only [resolve,hv]
 go_simp
theorem len31 (a : Option Addr) (n c : Nat) : (Builtin.len_ #[48] 3 #[.slice a n c]).run Tryd.prog w = .ok (.int .i64 n) w:=by go_simp
theorem len22 (a : Option Addr) (n c : Nat) : (Builtin.len_ #[22] 3 #[.slice a n c]).run Tryd.prog w = .ok (.int .i64 n) w:=by go_simp
theorem ex_gtr {x y : Operand} {n m : Int} (ho : o.op = .binOp .gtr 3 x y 3) (hx : ρ x = .int .i64 n) (hy : ρ y = .int .i64 m) : (execOp ρ o).run Tryd.prog w = .ok (.value (.bool (decide (m < n)))) w:=by
 unfold execOp;rw [ho];simp only [hx,hy]
 go_simp
theorem ex_eqs {x y : Operand} {s u : ByteArray} (ho : o.op = .binOp .eql 9 x y 9) (hx : ρ x = .string s) (hy : ρ y = .string u) : (execOp ρ o).run Tryd.prog w = .ok (.value (.bool (s.toList == u.toList))) w:=by
 unfold execOp;rw [ho];simp only [hx,hy]
 go_simp
theorem ex_eqq {x y : Operand} {s u : ByteArray} {q : Bool} (hq : (s.toList == u.toList) = q) (ho : o.op = .binOp .eql 9 x y 9) (hx : ρ x = .string s) (hy : ρ y = .string u) : (execOp ρ o).run Tryd.prog w = .ok (.value (.bool q)) w:=by
 rw [← hq];exact ex_eqs ho hx hy
theorem ld22 {b k : Nat} {a : Option Addr} {n c : Nat} (h : w.cell? ⟨b,k,none⟩ = some (.slice a n c)) : (Instr.loadAt 22 (.pointer (some ⟨b,k,none⟩))).run Tryd.prog w = .ok (.slice a n c) w:=by
 go_simp
theorem fa28 (b f : Nat) (hf : f < 5) : (Instr.fieldAt 28 (.pointer (some ⟨b,0,none⟩)) f).run Tryd.prog w = .ok (.pointer (some ⟨b,f,none⟩)) w:=by
 rcases f with _ | _ | _ | _ | _ | f
 all_goals first | omega | go_simp
theorem fa33 (b f : Nat) (hf : f < 8) : (Instr.fieldAt 50 (.pointer (some ⟨b,0,none⟩)) f).run Tryd.prog w = .ok (.pointer (some ⟨b,f,none⟩)) w:=by
 rcases f with _ | _ | _ | _ | _ | _ | _ | _ | f
 all_goals first | omega | go_simp
end
end Go.Proofs.YtkdpcaoocmbbhaaDoor
