/- Contracts of sectionsCanBe and sitesCanBe. -/
import Derived.Test.YtdpbapoahfggeaaDoorWt
import Derived.Test.YtdpbapoahfggeaaDoorM04
import Derived.Shelf.Abstract
namespace Go.Proofs.YtdpbapoahfggeaaDoor
open Go.ChangeShapes Go.WideShapes Go.ChangeAt Go.RowKit
set_option linter.unusedVariables false
set_option linter.unusedSimpArgs false

theorem RowOf.take {α : Type} {cells : α→List Value} {s : Nat} {ok : World→α→Prop} {w : World} {a : Option Addr} {n cap : Nat} {l : List α} (h : RowOf cells s ok w (.slice a n cap) l) (k : Nat) (hk : k≤l.length) : RowOf cells s ok w (.slice a k cap) (l.take k):=by
 obtain ⟨a',cap',e,h2,h3,h4,h5,h6⟩:=h
 cases e
 refine ⟨a,cap,by rw [List.length_take];congr 1;omega,by rw [List.length_take];omega,h3,?_,?_,?_⟩
 ·intro p hp ⟨hl,h0⟩
  exact h4 p hp ⟨hl,by rw [List.length_take] at h0;omega⟩
 ·intro ha
  obtain ⟨e1,e2⟩:=h5 ha
  exact ⟨by rw [e1];simp,e2⟩
 ·intro i x hx
  exact h6 i x (by rw [List.getElem?_take] at hx;split at hx <;> simp_all)

set_option maxHeartbeats 1000000 in
theorem meets_any (s o : Sec) (b : Nat) (w : World) (hb : BoxAt w b [.int .i64 s.th,.int .i64 s.fr,.int .i64 s.to]) :
  Calls Tryd.prog 56 #[.agg #[.int .i64 o.th,.int .i64 o.fr,.int .i64 o.to],.pointer (some ⟨b,0,none⟩)] w fun e w'=>e = .returned (.bool (meetB s o))∧Below w.heap.size w w':=by
 have c0:=hb.2 0 _ rfl
 have c1:=hb.2 1 _ rfl
 have c2:=hb.2 2 _ rfl
 have hlt:=hb.1
 clear hb
 have C:=hid (fun W=>meet_any s o W)
 go_enter Tryd.func56,Tryd.ntmps56
 go_wp2_with (go_at_call 57;refine Calls.mono (C.out _) ?_;rintro e w' ⟨rfl,hb'⟩)
 go_ret
 exact ⟨rfl,bover ((Below.refl _ _).alloc (Nat.le_refl _) _) hb'⟩

set_option maxRecDepth 100000 in
set_option maxHeartbeats 1000000 in
theorem indexMeet_any (v : Value) (l : List Sec) (s : Sec) (b1 : Nat) (w : World) (hl : Secs w v l) (hn : l.length≤1000000) (h1 : BoxAt w b1 [.int .i64 s.th,.int .i64 s.fr,.int .i64 s.to]) :
  Calls Tryd.prog 66 #[v,.func (.func 56) #[] #[.pointer (some ⟨b1,0,none⟩)]] w fun e w'=>∃ r : Int,e = .returned (.int .i64 r)∧(0≤r↔∃ (k : Nat) (o : Sec),l[k]? = some o∧meetB s o = true)∧Below w.heap.size w w':=by
 obtain ⟨a,cap,rfl,hr⟩:=secs_at hl
 have HR:=hid hr
 have C:=hid (fun (o : Sec) W (h : Below w.heap.size w W)=>meets_any s o b1 W (h1.kept h))
 clear hr hl h1
 generalize hln : l.length = n at *
 replace hln:=hid hln
 go_enter Tryd.func66,Tryd.ntmps66
 go_wp2_with fail
 go_loopw [8] (fun t wr=>∃ j : Nat,t = .int .i64 j∧j≤n∧Hid (∀ (i : Nat) (o : Sec),i < j→l[i]? = some o→meetB s o = false)∧Hid (Below w.heap.size w wr)) (fun t _=>n - (intOf t).toNat)
 case atStart=>exact ⟨0,rfl,by omega,hid (fun i o h=>by omega),Below.refl _ _⟩
 case round =>
  obtain ⟨j,rfl,hj,E,B⟩:=hrel
  by_cases hjn : j < n
  ·obtain ⟨o,b,off,hd,hs,rfl,hb,c0,c1,c2,ok⟩:=HR.out j hjn
   rw [← B.out.cell hb] at c0 c1 c2
   replace hs:=hid hs
   clear hd ok HR
   have D:=hid (C.out o wr B.out)
   clear C
   cases hh : meetB s o
   ·have E2 : Hid (∀ (i : Nat) (x : Sec),i < j + 1→l[i]? = some x→meetB s x = false):=hid (fun i x hi hx=>by
     by_cases hij : i < j
     ·exact E.out i x hij hx
     ·obtain rfl : i = j:=by omega
      rw [hs.out] at hx;cases hx;exact hh)
    rw [hh] at D
    clear hh E
    go_wp2_with (go_at_call 56;refine Calls.mono D.out ?_;rintro e w' ⟨rfl,hb'⟩)
    go_roundw
    case rel=>exact ⟨j + 1,by go_num,by omega,E2,bover B.out hb'⟩
    case measure=>simp [intOf];omega
   ·have E2:=hid (show ∃ (k : Nat) (o : Sec),l[k]? = some o∧meetB s o = true from ⟨j,o,hs.out,hh⟩)
    rw [hh] at D
    clear hh E
    go_wp2_with (go_at_call 56;refine Calls.mono D.out ?_;rintro e w' ⟨rfl,hb'⟩)
    go_ret
    exact ⟨_,rfl,⟨fun _=>E2.out,fun _=>by omega⟩,bover B.out hb'⟩
  ·have E2 : Hid (¬ ∃ (k : Nat) (o : Sec),l[k]? = some o∧meetB s o = true):=hid (by
    rintro ⟨k,o,hk,hm⟩
    have h1:=(List.getElem?_eq_some_iff.1 hk).1
    have:=hln.out
    have:=E.out k o (by omega) hk
    rw [this] at hm;cases hm)
   clear E HR C
   go_wp2
   go_ret
   exact ⟨_,rfl,⟨fun h=>by omega,fun h=>absurd h E2.out⟩,B.out⟩

set_option maxHeartbeats 1000000 in
theorem containsMeet_any (v : Value) (l : List Sec) (s : Sec) (b1 : Nat) (w : World) (hl : Secs w v l) (hn : l.length≤1000000) (h1 : BoxAt w b1 [.int .i64 s.th,.int .i64 s.fr,.int .i64 s.to]) :
  Calls Tryd.prog 55 #[v,.func (.func 56) #[] #[.pointer (some ⟨b1,0,none⟩)]] w (AnsN (∀ (k : Nat) (o : Sec),l[k]? = some o→meetB s o = false) w):=by
 have C:=hid (indexMeet_any v l s b1 w hl hn h1)
 obtain ⟨a,cap,rfl⟩:=hl.form
 clear hl h1
 go_enter Tryd.func55,Tryd.ntmps55
 go_wp2_with (go_at_call 66;refine Calls.mono C.out ?_;rintro e w' ⟨r,rfl,hr,hb'⟩;replace hr:=hid hr;by_cases h0 : 0≤r)
 ·go_ret
  refine exN ?_ hb'
  simp
  obtain ⟨k,o,h1,h2⟩:=hr.out.1 h0
  exact ⟨k,o,h1,h2⟩
 ·go_ret
  refine exN ?_ hb'
  simp
  refine ⟨fun _ k o hk=>?_,fun _=>h0⟩
  cases hm : meetB s o with
  | false=>rfl
  | true=>have:=hr.out.2 ⟨k,o,hk,hm⟩;omega

theorem insAt_form {w : World} (c : Cd) (hc : c.okW w) (th pl : Int) : ∃ a1 n1 p1 a2 n2 p2,(insAt c th pl).iv = .slice a1 n1 p1∧(insAt c th pl).xv = .slice a2 n2 p2:=by
 unfold insAt
 split
 ·rename_i h
  rw [Bool.and_eq_true] at h
  obtain ⟨t,e1,ht⟩:=isIn_nat h.1
  obtain ⟨k,e2,hk⟩:=isIn_nat h.2
  subst e1 e2
  simp only [Int.toNat_natCast] at hk ⊢
  have hx : c.threads[t]? = some c.threads[t]:=by simp [ht]
  have et : c.threads.getD t Bd.z = c.threads[t]:=by simp [List.getD,ht]
  rw [et] at hk ⊢
  obtain ⟨a,cap,e,hr⟩:=hc.2.2.1.at
  obtain ⟨x,b,off,hx',_,_,_,ok⟩:=hr t ht
  rw [hx] at hx';cases hx'
  obtain ⟨a',cap',e',hr'⟩:=ok.2.2.at
  obtain ⟨y,b',off',hy,_,_,_,ok'⟩:=hr' k hk
  have ey : (c.threads[t]).code.getD k Ins.z = y:=by simp [List.getD,hy]
  rw [ey]
  obtain ⟨a1,p1,e1⟩:=ok'.2.1.form
  obtain ⟨a2,p2,e2⟩:=ok'.2.2.form
  exact ⟨_,_,_,_,_,_,e1,e2⟩
 ·exact ⟨none,0,0,none,0,0,rfl,rfl⟩

theorem exNN {P : Prop} {w w' : World} (h : ¬ P) (hb : Below w.heap.size w w') : AnsN P w (.returned (.bool true)) w':=⟨true,rfl,⟨(fun k=>by cases k),(fun k=>absurd k h)⟩,hb⟩
theorem exNY {P : Prop} {w w' : World} (h : P) (hb : Below w.heap.size w w') : AnsN P w (.returned (.bool false)) w':=⟨false,rfl,⟨fun _=>h,fun _=>rfl⟩,hb⟩

theorem one8 (a b c d e f : Int) (x : Option Addr) (m r : Nat) (y : Option Addr) (m' r' : Nat) : ∀ v ∈ [Value.int .i64 a,.int .i64 b,.int .i64 c,.int .i64 d,.int .i64 e,.int .i64 f,.slice x m r,.slice y m' r'],v.oneCell' = true:=by
 intro v hv
 simp only [List.mem_cons,List.not_mem_nil,or_false] at hv
 rcases hv with rfl | rfl | rfl | rfl | rfl | rfl | rfl | rfl <;> rfl

def secsP (c : Cd) (j : Nat) (s : Sec) : Prop:=secOk c j s∧∀ (k : Nat) (o : Sec),k < j→c.secs[k]? = some o→meetB s o = false

theorem nb {a b : Int} (h : (a != b) = false) : a = b:=by simpa using h
theorem nt {a b : Int} (h : (a != b) = true) : ¬ a = b:=by simpa using h
theorem be {a b : Int} (h : (a == b) = true) : a = b:=by simpa using h
theorem bn {a b : Int} (h : (a == b) = false) : ¬ a = b:=by simpa using h

set_option maxRecDepth 100000 in
set_option maxHeartbeats 1000000 in
theorem secWrong_any (c : Cd) (j b : Nat) (s : Sec) (w : World) (hc : c.okW w) (hs : SmallP c) (hj : j < c.secs.length) (hb : BoxAt w b [c.rv,c.gv,c.tv,c.ev,c.cv]) :
  Calls Tryd.prog 53 #[.int .i64 j,.agg #[.int .i64 s.th,.int .i64 s.fr,.int .i64 s.to],.pointer (some ⟨b,0,none⟩)] w (AnsN (secsP c j s) w):=by
 obtain ⟨i1,m1,r1,i2,m2,r2,f1,f2⟩:=insAt_form c hc s.th s.fr
 obtain ⟨i3,m3,r3,i4,m4,r4,f3,f4⟩:=insAt_form c hc s.th s.to
 have C1:=fun W (h : Below w.heap.size w W)=>instrAt_any c s.th s.fr W (Cd.kept hc h) hs
 have C2:=fun W (h : Below w.heap.size w W)=>instrAt_any c s.th s.to W (Cd.kept hc h) hs
 unfold Ins.val at C1 C2
 rw [f1,f2] at C1
 rw [f3,f4] at C2
 have F:=hid (show ∀ y1 y2,y1 = insAt c s.th s.fr→y2 = insAt c s.th s.to→(secOk c j s↔(y1.op = 15∧y1.n = j∧y2.op = 16∧y2.n = j∧s.fr < s.to)) from fun y1 y2 e1 e2=>by subst e1 e2;exact Iff.rfl)
 replace F:=hid (F.out _ _ rfl rfl)
 clear f1 f2 f3 f4
 generalize insAt c s.th s.fr = y1 at *
 generalize insAt c s.th s.to = y2 at *
 replace C1:=hid C1
 replace C2:=hid C2
 obtain ⟨a0,p0,a1,p1,a2,p2,a3,p3,a4,p4,e0,e1,e2,e3,e4⟩:=cd_open hc
 have hsec:=hc.2.2.2.2
 rw [e4] at hsec
 have hl5:=hs.l5
 have CM:=hid (fun W b1 (h : Below w.heap.size w W) (k : BoxAt W b1 [.int .i64 s.th,.int .i64 s.fr,.int .i64 s.to])=>containsMeet_any (.slice a4 j p4) (c.secs.take j) s b1 W (Secs.kept (RowOf.take hsec j (by omega)) h) (by rw [List.length_take];omega) k)
 have hcap : c.secs.length≤p4:=by obtain ⟨a',cap',e,h2,_⟩:=hsec;cases e;exact h2
 rw [e0,e1,e2,e3,e4] at C1 C2 hb
 have c0:=hb.2 0 _ rfl
 have c1:=hb.2 1 _ rfl
 have c2:=hb.2 2 _ rfl
 have c3:=hb.2 3 _ rfl
 have c4:=hb.2 4 _ rfl
 have hlt:=hb.1
 replace hb:=hid hb
 clear e0 e1 e2 e3 e4 hc hs hsec
 have R0 : Hid (Rg w b (.slice a0 c.recs.length p0) (.slice a1 c.globs.length p1) (.slice a2 c.threads.length p2) (.slice a3 c.sites.length p3) (.slice a4 c.secs.length p4) (.int .i64 s.th) (.int .i64 s.fr) (.int .i64 s.to) (w.alloc (.cells #[.int .i64 s.th,.int .i64 s.fr,.int .i64 s.to] 63))) :=
  hid ⟨(Below.refl _ _).alloc (Nat.le_refl _) _,hlt,hb.out.past _,BoxAt.new w #[.int .i64 s.th,.int .i64 s.fr,.int .i64 s.to] 63⟩
 have ef35 : Hid (∀ args w,(callFunc 54 args).run Tryd.prog w = .ok (.enter 54 args) w):=hid (enters_of Tryd.func54 (by kernel_rfl) rfl)
 have Z33 : Hid ((Tryd.prog.info? 58).map (·.size) = some 8):=hid (by kernel_rfl)
 clear c0 c1 c2 c3 c4 hlt hb
 go_enter Tryd.func53,Tryd.ntmps53
 go_wp2_with fail
 go_cut [6,7] from 8 to 19 (fun t6 t7 wr=>∃ p6 p7 : Nat,t6 = .pointer (some ⟨p6,0,none⟩)∧t7 = .pointer (some ⟨p7,0,none⟩)∧Hid (Rg w b (.slice a0 c.recs.length p0) (.slice a1 c.globs.length p1) (.slice a2 c.threads.length p2) (.slice a3 c.sites.length p3) (.slice a4 c.secs.length p4) (.int .i64 s.th) (.int .i64 s.fr) (.int .i64 s.to) wr) ∧
  Hid (VarAt wr p6 [.int .i64 y1.op,.int .i64 y1.dst,.int .i64 y1.src,.int .i64 y1.rc,.int .i64 y1.n,.int .i64 y1.to,.slice i1 m1 r1,.slice i2 m2 r2] 58)∧Hid (VarAt wr p7 [.int .i64 y2.op,.int .i64 y2.dst,.int .i64 y2.src,.int .i64 y2.rc,.int .i64 y2.n,.int .i64 y2.to,.slice i3 m3 r3,.slice i4 m4 r4] 58))
 case first =>
  clear CM F hj hl5 hcap
  refine wp_region_held_drew (S:=fun (w' : World)=>w'.cell? ⟨b,0,none⟩ = some (.slice a0 c.recs.length p0)∧w'.cell? ⟨b,1,none⟩ = some (.slice a1 c.globs.length p1)∧w'.cell? ⟨b,2,none⟩ = some (.slice a2 c.threads.length p2)∧w'.cell? ⟨b,3,none⟩ = some (.slice a3 c.sites.length p3)∧w'.cell? ⟨b,4,none⟩ = some (.slice a4 c.secs.length p4)∧w'.cell? ⟨w.heap.size,0,none⟩ = some (.int .i64 s.th)∧w'.cell? ⟨w.heap.size,1,none⟩ = some (.int .i64 s.fr)∧w'.cell? ⟨w.heap.size,2,none⟩ = some (.int .i64 s.to)) (by kernel_rfl) (R0.out.drew.box) (fun hHeld=>?_)
  refine wT 0 ⟨some 8,.load 41 (.tmp 2),41,"code.go:58",#[],none⟩ hHeld ?_
  try simp only [Act.put,sA,sB,sC]
  refine wT 1 ⟨some 9,.fieldAddr 63 (.tmp 4) 0,0,"code.go:58",#[],none⟩ hHeld ?_
  try simp only [Act.put,sA,sB,sC]
  refine wT 2 ⟨some 10,.load 3 (.tmp 9),3,"code.go:58",#[⟨1,.data⟩],none⟩ hHeld ?_
  try simp only [Act.put,sA,sB,sC]
  refine wT 3 ⟨some 11,.fieldAddr 63 (.tmp 4) 1,0,"code.go:58",#[],none⟩ hHeld ?_
  try simp only [Act.put,sA,sB,sC]
  refine wT 4 ⟨some 12,.load 3 (.tmp 11),3,"code.go:58",#[⟨3,.data⟩],none⟩ hHeld ?_
  try simp only [Act.put,sA,sB,sC]
  refine wT 6 ⟨some 14,.load 41 (.tmp 2),41,"code.go:58",#[],none⟩ hHeld ?_
  try simp only [Act.put,sA,sB,sC]
  refine wT 7 ⟨some 15,.fieldAddr 63 (.tmp 4) 0,0,"code.go:58",#[],none⟩ hHeld ?_
  try simp only [Act.put,sA,sB,sC]
  refine wT 8 ⟨some 16,.load 3 (.tmp 15),3,"code.go:58",#[⟨7,.data⟩],none⟩ hHeld ?_
  try simp only [Act.put,sA,sB,sC]
  refine wT 9 ⟨some 17,.fieldAddr 63 (.tmp 4) 2,0,"code.go:58",#[],none⟩ hHeld ?_
  try simp only [Act.put,sA,sB,sC]
  refine wT 10 ⟨some 18,.load 3 (.tmp 17),3,"code.go:58",#[⟨9,.data⟩],none⟩ hHeld ?_
  try simp only [Act.put,sA,sB,sC]
  clear hHeld
  have R:=hid R0.out.drew
  refine wpAnyH_ready (rs:=[5,12,13]) (by kernel_rfl) (by simp) ?_
  refine AllReadyH.cons (o:=⟨some 13,.call ⟨.value (.func 54),#[.tmp 8,.tmp 10,.tmp 12],#[41,3,3]⟩,58,"code.go:58",#[⟨0,.data⟩,⟨2,.data⟩,⟨4,.data⟩],none⟩) rfl (fun K' hK'=>?_) ?_
  ·skip
   refine step_call3 54 ef35.out (by rfl) _ _ _ _ (by rfl) (.agg #[.slice a0 c.recs.length p0,.slice a1 c.globs.length p1,.slice a2 c.threads.length p2,.slice a3 c.sites.length p3,.slice a4 c.secs.length p4]) (.int .i64 s.th) (.int .i64 s.fr) (by rfl) (by rfl) (by rfl) (C1.out _ R.out.bel) ?_
   rintro r' y5 ⟨rfl,hb⟩
   replace R:=hid (R.out.kept hb)
   clear hb
   refine hK'.out _ _ (R.out.box) (fun hHeld=>?_)
   clear hHeld hK' K'
   try simp only [Act.put,sA,sB,sC]
   refine wpAnyH_ready (rs:=[11,12,13]) (by kernel_rfl) (by simp) ?_
   refine AllReadyH.cons (o:=⟨some 19,.call ⟨.value (.func 54),#[.tmp 14,.tmp 16,.tmp 18],#[41,3,3]⟩,58,"code.go:58",#[⟨6,.data⟩,⟨8,.data⟩,⟨10,.data⟩,⟨5,.chain⟩],none⟩) rfl (fun K' hK'=>?_) ?_
   ·skip
    refine step_call3 54 ef35.out (by rfl) _ _ _ _ (by rfl) (.agg #[.slice a0 c.recs.length p0,.slice a1 c.globs.length p1,.slice a2 c.threads.length p2,.slice a3 c.sites.length p3,.slice a4 c.secs.length p4]) (.int .i64 s.th) (.int .i64 s.to) (by rfl) (by rfl) (by rfl) (C2.out _ R.out.bel) ?_
    rintro r' y11 ⟨rfl,hb⟩
    replace R:=hid (R.out.kept hb)
    clear hb
    refine hK'.out _ _ (R.out.box) (fun hHeld=>?_)
    clear hHeld hK' K'
    try simp only [Act.put,sA,sB,sC]
    refine wpAnyH_ready (rs:=[12,13]) (by kernel_rfl) (by simp) ?_
    refine AllReadyH.cons (o:=⟨some 6,.alloc 58,0,"code.go:58",#[],none⟩) rfl (fun K' hK'=>?_) ?_
    ·skip
     go_simp
     have L6:=hid R.out.s3.1
     try simp only [World.size_alloc,size_drew] at L6
     have V6:=hid (VarAt.new y11 [.int .i64 0,.int .i64 0,.int .i64 0,.int .i64 0,.int .i64 0,.int .i64 0,.slice none 0 0,.slice none 0 0] 58)
     try simp only [World.size_alloc,size_drew] at V6
     replace R:=hid (R.out.past (.cells #[.int .i64 0,.int .i64 0,.int .i64 0,.int .i64 0,.int .i64 0,.int .i64 0,.slice none 0 0,.slice none 0 0] 58))
     refine hK'.out _ _ (R.out.box) (fun hHeld=>?_)
     clear hHeld hK' K'
     try simp only [Act.put,sA,sB,sC]
     refine wO 13 ⟨some 7,.alloc 58,0,"code.go:58",#[],none⟩ (fun K' hK'=>?_)
     go_simp
     have L7:=hid R.out.s3.1
     try simp only [World.size_alloc,size_drew] at L7
     have V7:=hid (VarAt.new (World.alloc y11 (.cells #[.int .i64 0,.int .i64 0,.int .i64 0,.int .i64 0,.int .i64 0,.int .i64 0,.slice none 0 0,.slice none 0 0] 58)) [.int .i64 0,.int .i64 0,.int .i64 0,.int .i64 0,.int .i64 0,.int .i64 0,.slice none 0 0,.slice none 0 0] 58)
     try simp only [World.size_alloc,size_drew] at V7
     have neq:=hid (Nat.ne_of_gt V6.out.lt)
     try simp only [World.size_alloc,size_drew] at neq
     replace V6:=hid (V6.out.past (.cells #[.int .i64 0,.int .i64 0,.int .i64 0,.int .i64 0,.int .i64 0,.int .i64 0,.slice none 0 0,.slice none 0 0] 58))
     replace R:=hid (R.out.past (.cells #[.int .i64 0,.int .i64 0,.int .i64 0,.int .i64 0,.int .i64 0,.int .i64 0,.slice none 0 0,.slice none 0 0] 58))
     refine hK'.out _ _ (R.out.box) (fun hHeld=>?_)
     clear hHeld hK' K'
     try simp only [Act.put,sA,sB,sC]
     refine wO 14 ⟨none,.store 58 (.tmp 6) (.tmp 13),0,"code.go:58",#[⟨12,.data⟩,⟨5,.data⟩,⟨11,.chain⟩,⟨0,.phase⟩,⟨1,.phase⟩,⟨2,.phase⟩,⟨3,.phase⟩,⟨4,.phase⟩,⟨5,.phase⟩,{ on:=6,ground:=Go.Ground.textOnly Go.Departure.lateStores },{ on:=7,ground:=Go.Ground.textOnly Go.Departure.lateStores },{ on:=8,ground:=Go.Ground.textOnly Go.Departure.lateStores },{ on:=9,ground:=Go.Ground.textOnly Go.Departure.lateStores },{ on:=10,ground:=Go.Ground.textOnly Go.Departure.lateStores },{ on:=11,ground:=Go.Ground.textOnly Go.Departure.lateStoresUnsure },⟨12,.phase⟩,⟨13,.phase⟩],none⟩ (fun K' hK'=>?_)
     refine step_store 58 _ _ (by rfl) (by rfl) _ (by rfl) [.int .i64 y1.op,.int .i64 y1.dst,.int .i64 y1.src,.int .i64 y1.rc,.int .i64 y1.n,.int .i64 y1.to,.slice i1 m1 r1,.slice i2 m2 r2] (by rfl) Z33.out (one8 _ _ _ _ _ _ _ _ _ _ _ _) _ 58 V6.out rfl rfl ?_
     intro w14 hv hu
     replace R:=hid (hu.rg R.out L6.out)
     replace V6:=hid hv
     replace V7:=hid (hu.var V7.out (by first | exact neq.out | exact neq.out.symm))
     clear hv hu
     refine hK'.out _ _ (R.out.box) (fun hHeld=>?_)
     clear hHeld hK' K'
     try simp only [Act.put,sA,sB,sC]
     refine wO 15 ⟨none,.store 58 (.tmp 7) (.tmp 19),0,"code.go:58",#[⟨13,.data⟩,⟨11,.data⟩,⟨14,.chain⟩,⟨0,.phase⟩,⟨1,.phase⟩,⟨2,.phase⟩,⟨3,.phase⟩,⟨4,.phase⟩,⟨5,.phase⟩,⟨6,.phase⟩,⟨7,.phase⟩,⟨8,.phase⟩,⟨9,.phase⟩,⟨10,.phase⟩,⟨11,.phase⟩,⟨12,.phase⟩,⟨13,.phase⟩,⟨14,.phase⟩],none⟩ (fun K' hK'=>?_)
     refine step_store 58 _ _ (by rfl) (by rfl) _ (by rfl) [.int .i64 y2.op,.int .i64 y2.dst,.int .i64 y2.src,.int .i64 y2.rc,.int .i64 y2.n,.int .i64 y2.to,.slice i3 m3 r3,.slice i4 m4 r4] (by rfl) Z33.out (one8 _ _ _ _ _ _ _ _ _ _ _ _) _ 58 V7.out rfl rfl ?_
     intro w15 hv hu
     replace R:=hid (hu.rg R.out L7.out)
     replace V7:=hid hv
     replace V6:=hid (hu.var V6.out (by first | exact neq.out | exact neq.out.symm))
     clear hv hu
     refine hK'.out _ _ (R.out.box) (fun hHeld=>?_)
     clear hHeld hK' K'
     try simp only [Act.put,sA,sB,sC]
     refine wpAnyH_done (by kernel_rfl) ?_ _
     go_wp2_with fail
     go_meet
     case rel=>exact ⟨_,_,rfl,rfl,R,V6,V7⟩
    refine AllReadyH.cons (o:=⟨some 7,.alloc 58,0,"code.go:58",#[],none⟩) rfl (fun K' hK'=>?_) AllReadyH.nil
    go_simp
    have L7:=hid R.out.s3.1
    try simp only [World.size_alloc,size_drew] at L7
    have V7:=hid (VarAt.new y11 [.int .i64 0,.int .i64 0,.int .i64 0,.int .i64 0,.int .i64 0,.int .i64 0,.slice none 0 0,.slice none 0 0] 58)
    try simp only [World.size_alloc,size_drew] at V7
    replace R:=hid (R.out.past (.cells #[.int .i64 0,.int .i64 0,.int .i64 0,.int .i64 0,.int .i64 0,.int .i64 0,.slice none 0 0,.slice none 0 0] 58))
    refine hK'.out _ _ (R.out.box) (fun hHeld=>?_)
    clear hHeld hK' K'
    try simp only [Act.put,sA,sB,sC]
    refine wO 12 ⟨some 6,.alloc 58,0,"code.go:58",#[],none⟩ (fun K' hK'=>?_)
    go_simp
    have L6:=hid R.out.s3.1
    try simp only [World.size_alloc,size_drew] at L6
    have V6:=hid (VarAt.new (World.alloc y11 (.cells #[.int .i64 0,.int .i64 0,.int .i64 0,.int .i64 0,.int .i64 0,.int .i64 0,.slice none 0 0,.slice none 0 0] 58)) [.int .i64 0,.int .i64 0,.int .i64 0,.int .i64 0,.int .i64 0,.int .i64 0,.slice none 0 0,.slice none 0 0] 58)
    try simp only [World.size_alloc,size_drew] at V6
    have neq:=hid (Nat.ne_of_gt V7.out.lt)
    try simp only [World.size_alloc,size_drew] at neq
    replace V7:=hid (V7.out.past (.cells #[.int .i64 0,.int .i64 0,.int .i64 0,.int .i64 0,.int .i64 0,.int .i64 0,.slice none 0 0,.slice none 0 0] 58))
    replace R:=hid (R.out.past (.cells #[.int .i64 0,.int .i64 0,.int .i64 0,.int .i64 0,.int .i64 0,.int .i64 0,.slice none 0 0,.slice none 0 0] 58))
    refine hK'.out _ _ (R.out.box) (fun hHeld=>?_)
    clear hHeld hK' K'
    try simp only [Act.put,sA,sB,sC]
    refine wO 14 ⟨none,.store 58 (.tmp 6) (.tmp 13),0,"code.go:58",#[⟨12,.data⟩,⟨5,.data⟩,⟨11,.chain⟩,⟨0,.phase⟩,⟨1,.phase⟩,⟨2,.phase⟩,⟨3,.phase⟩,⟨4,.phase⟩,⟨5,.phase⟩,{ on:=6,ground:=Go.Ground.textOnly Go.Departure.lateStores },{ on:=7,ground:=Go.Ground.textOnly Go.Departure.lateStores },{ on:=8,ground:=Go.Ground.textOnly Go.Departure.lateStores },{ on:=9,ground:=Go.Ground.textOnly Go.Departure.lateStores },{ on:=10,ground:=Go.Ground.textOnly Go.Departure.lateStores },{ on:=11,ground:=Go.Ground.textOnly Go.Departure.lateStoresUnsure },⟨12,.phase⟩,⟨13,.phase⟩],none⟩ (fun K' hK'=>?_)
    refine step_store 58 _ _ (by rfl) (by rfl) _ (by rfl) [.int .i64 y1.op,.int .i64 y1.dst,.int .i64 y1.src,.int .i64 y1.rc,.int .i64 y1.n,.int .i64 y1.to,.slice i1 m1 r1,.slice i2 m2 r2] (by rfl) Z33.out (one8 _ _ _ _ _ _ _ _ _ _ _ _) _ 58 V6.out rfl rfl ?_
    intro w14 hv hu
    replace R:=hid (hu.rg R.out L6.out)
    replace V6:=hid hv
    replace V7:=hid (hu.var V7.out (by first | exact neq.out | exact neq.out.symm))
    clear hv hu
    refine hK'.out _ _ (R.out.box) (fun hHeld=>?_)
    clear hHeld hK' K'
    try simp only [Act.put,sA,sB,sC]
    refine wO 15 ⟨none,.store 58 (.tmp 7) (.tmp 19),0,"code.go:58",#[⟨13,.data⟩,⟨11,.data⟩,⟨14,.chain⟩,⟨0,.phase⟩,⟨1,.phase⟩,⟨2,.phase⟩,⟨3,.phase⟩,⟨4,.phase⟩,⟨5,.phase⟩,⟨6,.phase⟩,⟨7,.phase⟩,⟨8,.phase⟩,⟨9,.phase⟩,⟨10,.phase⟩,⟨11,.phase⟩,⟨12,.phase⟩,⟨13,.phase⟩,⟨14,.phase⟩],none⟩ (fun K' hK'=>?_)
    refine step_store 58 _ _ (by rfl) (by rfl) _ (by rfl) [.int .i64 y2.op,.int .i64 y2.dst,.int .i64 y2.src,.int .i64 y2.rc,.int .i64 y2.n,.int .i64 y2.to,.slice i3 m3 r3,.slice i4 m4 r4] (by rfl) Z33.out (one8 _ _ _ _ _ _ _ _ _ _ _ _) _ 58 V7.out rfl rfl ?_
    intro w15 hv hu
    replace R:=hid (hu.rg R.out L7.out)
    replace V7:=hid hv
    replace V6:=hid (hu.var V6.out (by first | exact neq.out | exact neq.out.symm))
    clear hv hu
    refine hK'.out _ _ (R.out.box) (fun hHeld=>?_)
    clear hHeld hK' K'
    try simp only [Act.put,sA,sB,sC]
    refine wpAnyH_done (by kernel_rfl) ?_ _
    go_wp2_with fail
    go_meet
    case rel=>exact ⟨_,_,rfl,rfl,R,V6,V7⟩
   refine AllReadyH.cons (o:=⟨some 6,.alloc 58,0,"code.go:58",#[],none⟩) rfl (fun K' hK'=>?_) ?_
   ·skip
    go_simp
    have L6:=hid R.out.s3.1
    try simp only [World.size_alloc,size_drew] at L6
    have V6:=hid (VarAt.new y5 [.int .i64 0,.int .i64 0,.int .i64 0,.int .i64 0,.int .i64 0,.int .i64 0,.slice none 0 0,.slice none 0 0] 58)
    try simp only [World.size_alloc,size_drew] at V6
    replace R:=hid (R.out.past (.cells #[.int .i64 0,.int .i64 0,.int .i64 0,.int .i64 0,.int .i64 0,.int .i64 0,.slice none 0 0,.slice none 0 0] 58))
    refine hK'.out _ _ (R.out.box) (fun hHeld=>?_)
    clear hHeld hK' K'
    try simp only [Act.put,sA,sB,sC]
    refine wpAnyH_ready (rs:=[11,13]) (by kernel_rfl) (by simp) ?_
    refine AllReadyH.cons (o:=⟨some 19,.call ⟨.value (.func 54),#[.tmp 14,.tmp 16,.tmp 18],#[41,3,3]⟩,58,"code.go:58",#[⟨6,.data⟩,⟨8,.data⟩,⟨10,.data⟩,⟨5,.chain⟩],none⟩) rfl (fun K' hK'=>?_) ?_
    ·skip
     refine step_call3 54 ef35.out (by rfl) _ _ _ _ (by rfl) (.agg #[.slice a0 c.recs.length p0,.slice a1 c.globs.length p1,.slice a2 c.threads.length p2,.slice a3 c.sites.length p3,.slice a4 c.secs.length p4]) (.int .i64 s.th) (.int .i64 s.to) (by rfl) (by rfl) (by rfl) (C2.out _ R.out.bel) ?_
     rintro r' y11 ⟨rfl,hb⟩
     replace R:=hid (R.out.kept hb)
     replace V6:=hid (V6.out.kept hb)
     clear hb
     refine hK'.out _ _ (R.out.box) (fun hHeld=>?_)
     clear hHeld hK' K'
     try simp only [Act.put,sA,sB,sC]
     refine wO 13 ⟨some 7,.alloc 58,0,"code.go:58",#[],none⟩ (fun K' hK'=>?_)
     go_simp
     have L7:=hid R.out.s3.1
     try simp only [World.size_alloc,size_drew] at L7
     have V7:=hid (VarAt.new y11 [.int .i64 0,.int .i64 0,.int .i64 0,.int .i64 0,.int .i64 0,.int .i64 0,.slice none 0 0,.slice none 0 0] 58)
     try simp only [World.size_alloc,size_drew] at V7
     have neq:=hid (Nat.ne_of_gt V6.out.lt)
     try simp only [World.size_alloc,size_drew] at neq
     replace V6:=hid (V6.out.past (.cells #[.int .i64 0,.int .i64 0,.int .i64 0,.int .i64 0,.int .i64 0,.int .i64 0,.slice none 0 0,.slice none 0 0] 58))
     replace R:=hid (R.out.past (.cells #[.int .i64 0,.int .i64 0,.int .i64 0,.int .i64 0,.int .i64 0,.int .i64 0,.slice none 0 0,.slice none 0 0] 58))
     refine hK'.out _ _ (R.out.box) (fun hHeld=>?_)
     clear hHeld hK' K'
     try simp only [Act.put,sA,sB,sC]
     refine wO 14 ⟨none,.store 58 (.tmp 6) (.tmp 13),0,"code.go:58",#[⟨12,.data⟩,⟨5,.data⟩,⟨11,.chain⟩,⟨0,.phase⟩,⟨1,.phase⟩,⟨2,.phase⟩,⟨3,.phase⟩,⟨4,.phase⟩,⟨5,.phase⟩,{ on:=6,ground:=Go.Ground.textOnly Go.Departure.lateStores },{ on:=7,ground:=Go.Ground.textOnly Go.Departure.lateStores },{ on:=8,ground:=Go.Ground.textOnly Go.Departure.lateStores },{ on:=9,ground:=Go.Ground.textOnly Go.Departure.lateStores },{ on:=10,ground:=Go.Ground.textOnly Go.Departure.lateStores },{ on:=11,ground:=Go.Ground.textOnly Go.Departure.lateStoresUnsure },⟨12,.phase⟩,⟨13,.phase⟩],none⟩ (fun K' hK'=>?_)
     refine step_store 58 _ _ (by rfl) (by rfl) _ (by rfl) [.int .i64 y1.op,.int .i64 y1.dst,.int .i64 y1.src,.int .i64 y1.rc,.int .i64 y1.n,.int .i64 y1.to,.slice i1 m1 r1,.slice i2 m2 r2] (by rfl) Z33.out (one8 _ _ _ _ _ _ _ _ _ _ _ _) _ 58 V6.out rfl rfl ?_
     intro w14 hv hu
     replace R:=hid (hu.rg R.out L6.out)
     replace V6:=hid hv
     replace V7:=hid (hu.var V7.out (by first | exact neq.out | exact neq.out.symm))
     clear hv hu
     refine hK'.out _ _ (R.out.box) (fun hHeld=>?_)
     clear hHeld hK' K'
     try simp only [Act.put,sA,sB,sC]
     refine wO 15 ⟨none,.store 58 (.tmp 7) (.tmp 19),0,"code.go:58",#[⟨13,.data⟩,⟨11,.data⟩,⟨14,.chain⟩,⟨0,.phase⟩,⟨1,.phase⟩,⟨2,.phase⟩,⟨3,.phase⟩,⟨4,.phase⟩,⟨5,.phase⟩,⟨6,.phase⟩,⟨7,.phase⟩,⟨8,.phase⟩,⟨9,.phase⟩,⟨10,.phase⟩,⟨11,.phase⟩,⟨12,.phase⟩,⟨13,.phase⟩,⟨14,.phase⟩],none⟩ (fun K' hK'=>?_)
     refine step_store 58 _ _ (by rfl) (by rfl) _ (by rfl) [.int .i64 y2.op,.int .i64 y2.dst,.int .i64 y2.src,.int .i64 y2.rc,.int .i64 y2.n,.int .i64 y2.to,.slice i3 m3 r3,.slice i4 m4 r4] (by rfl) Z33.out (one8 _ _ _ _ _ _ _ _ _ _ _ _) _ 58 V7.out rfl rfl ?_
     intro w15 hv hu
     replace R:=hid (hu.rg R.out L7.out)
     replace V7:=hid hv
     replace V6:=hid (hu.var V6.out (by first | exact neq.out | exact neq.out.symm))
     clear hv hu
     refine hK'.out _ _ (R.out.box) (fun hHeld=>?_)
     clear hHeld hK' K'
     try simp only [Act.put,sA,sB,sC]
     refine wpAnyH_done (by kernel_rfl) ?_ _
     go_wp2_with fail
     go_meet
     case rel=>exact ⟨_,_,rfl,rfl,R,V6,V7⟩
    refine AllReadyH.cons (o:=⟨some 7,.alloc 58,0,"code.go:58",#[],none⟩) rfl (fun K' hK'=>?_) AllReadyH.nil
    go_simp
    have L7:=hid R.out.s3.1
    try simp only [World.size_alloc,size_drew] at L7
    have V7:=hid (VarAt.new (World.alloc y5 (.cells #[.int .i64 0,.int .i64 0,.int .i64 0,.int .i64 0,.int .i64 0,.int .i64 0,.slice none 0 0,.slice none 0 0] 58)) [.int .i64 0,.int .i64 0,.int .i64 0,.int .i64 0,.int .i64 0,.int .i64 0,.slice none 0 0,.slice none 0 0] 58)
    try simp only [World.size_alloc,size_drew] at V7
    have neq:=hid (Nat.ne_of_gt V6.out.lt)
    try simp only [World.size_alloc,size_drew] at neq
    replace V6:=hid (V6.out.past (.cells #[.int .i64 0,.int .i64 0,.int .i64 0,.int .i64 0,.int .i64 0,.int .i64 0,.slice none 0 0,.slice none 0 0] 58))
    replace R:=hid (R.out.past (.cells #[.int .i64 0,.int .i64 0,.int .i64 0,.int .i64 0,.int .i64 0,.int .i64 0,.slice none 0 0,.slice none 0 0] 58))
    refine hK'.out _ _ (R.out.box) (fun hHeld=>?_)
    clear hHeld hK' K'
    try simp only [Act.put,sA,sB,sC]
    refine wO 11 ⟨some 19,.call ⟨.value (.func 54),#[.tmp 14,.tmp 16,.tmp 18],#[41,3,3]⟩,58,"code.go:58",#[⟨6,.data⟩,⟨8,.data⟩,⟨10,.data⟩,⟨5,.chain⟩],none⟩ (fun K' hK'=>?_)
    refine step_call3 54 ef35.out (by rfl) _ _ _ _ (by rfl) (.agg #[.slice a0 c.recs.length p0,.slice a1 c.globs.length p1,.slice a2 c.threads.length p2,.slice a3 c.sites.length p3,.slice a4 c.secs.length p4]) (.int .i64 s.th) (.int .i64 s.to) (by rfl) (by rfl) (by rfl) (C2.out _ R.out.bel) ?_
    rintro r' y11 ⟨rfl,hb⟩
    replace R:=hid (R.out.kept hb)
    replace V6:=hid (V6.out.kept hb)
    replace V7:=hid (V7.out.kept hb)
    clear hb
    refine hK'.out _ _ (R.out.box) (fun hHeld=>?_)
    clear hHeld hK' K'
    try simp only [Act.put,sA,sB,sC]
    refine wO 14 ⟨none,.store 58 (.tmp 6) (.tmp 13),0,"code.go:58",#[⟨12,.data⟩,⟨5,.data⟩,⟨11,.chain⟩,⟨0,.phase⟩,⟨1,.phase⟩,⟨2,.phase⟩,⟨3,.phase⟩,⟨4,.phase⟩,⟨5,.phase⟩,{ on:=6,ground:=Go.Ground.textOnly Go.Departure.lateStores },{ on:=7,ground:=Go.Ground.textOnly Go.Departure.lateStores },{ on:=8,ground:=Go.Ground.textOnly Go.Departure.lateStores },{ on:=9,ground:=Go.Ground.textOnly Go.Departure.lateStores },{ on:=10,ground:=Go.Ground.textOnly Go.Departure.lateStores },{ on:=11,ground:=Go.Ground.textOnly Go.Departure.lateStoresUnsure },⟨12,.phase⟩,⟨13,.phase⟩],none⟩ (fun K' hK'=>?_)
    refine step_store 58 _ _ (by rfl) (by rfl) _ (by rfl) [.int .i64 y1.op,.int .i64 y1.dst,.int .i64 y1.src,.int .i64 y1.rc,.int .i64 y1.n,.int .i64 y1.to,.slice i1 m1 r1,.slice i2 m2 r2] (by rfl) Z33.out (one8 _ _ _ _ _ _ _ _ _ _ _ _) _ 58 V6.out rfl rfl ?_
    intro w14 hv hu
    replace R:=hid (hu.rg R.out L6.out)
    replace V6:=hid hv
    replace V7:=hid (hu.var V7.out (by first | exact neq.out | exact neq.out.symm))
    clear hv hu
    refine hK'.out _ _ (R.out.box) (fun hHeld=>?_)
    clear hHeld hK' K'
    try simp only [Act.put,sA,sB,sC]
    refine wO 15 ⟨none,.store 58 (.tmp 7) (.tmp 19),0,"code.go:58",#[⟨13,.data⟩,⟨11,.data⟩,⟨14,.chain⟩,⟨0,.phase⟩,⟨1,.phase⟩,⟨2,.phase⟩,⟨3,.phase⟩,⟨4,.phase⟩,⟨5,.phase⟩,⟨6,.phase⟩,⟨7,.phase⟩,⟨8,.phase⟩,⟨9,.phase⟩,⟨10,.phase⟩,⟨11,.phase⟩,⟨12,.phase⟩,⟨13,.phase⟩,⟨14,.phase⟩],none⟩ (fun K' hK'=>?_)
    refine step_store 58 _ _ (by rfl) (by rfl) _ (by rfl) [.int .i64 y2.op,.int .i64 y2.dst,.int .i64 y2.src,.int .i64 y2.rc,.int .i64 y2.n,.int .i64 y2.to,.slice i3 m3 r3,.slice i4 m4 r4] (by rfl) Z33.out (one8 _ _ _ _ _ _ _ _ _ _ _ _) _ 58 V7.out rfl rfl ?_
    intro w15 hv hu
    replace R:=hid (hu.rg R.out L7.out)
    replace V7:=hid hv
    replace V6:=hid (hu.var V6.out (by first | exact neq.out | exact neq.out.symm))
    clear hv hu
    refine hK'.out _ _ (R.out.box) (fun hHeld=>?_)
    clear hHeld hK' K'
    try simp only [Act.put,sA,sB,sC]
    refine wpAnyH_done (by kernel_rfl) ?_ _
    go_wp2_with fail
    go_meet
    case rel=>exact ⟨_,_,rfl,rfl,R,V6,V7⟩
   refine AllReadyH.cons (o:=⟨some 7,.alloc 58,0,"code.go:58",#[],none⟩) rfl (fun K' hK'=>?_) AllReadyH.nil
   go_simp
   have L7:=hid R.out.s3.1
   try simp only [World.size_alloc,size_drew] at L7
   have V7:=hid (VarAt.new y5 [.int .i64 0,.int .i64 0,.int .i64 0,.int .i64 0,.int .i64 0,.int .i64 0,.slice none 0 0,.slice none 0 0] 58)
   try simp only [World.size_alloc,size_drew] at V7
   replace R:=hid (R.out.past (.cells #[.int .i64 0,.int .i64 0,.int .i64 0,.int .i64 0,.int .i64 0,.int .i64 0,.slice none 0 0,.slice none 0 0] 58))
   refine hK'.out _ _ (R.out.box) (fun hHeld=>?_)
   clear hHeld hK' K'
   try simp only [Act.put,sA,sB,sC]
   refine wpAnyH_ready (rs:=[11,12]) (by kernel_rfl) (by simp) ?_
   refine AllReadyH.cons (o:=⟨some 19,.call ⟨.value (.func 54),#[.tmp 14,.tmp 16,.tmp 18],#[41,3,3]⟩,58,"code.go:58",#[⟨6,.data⟩,⟨8,.data⟩,⟨10,.data⟩,⟨5,.chain⟩],none⟩) rfl (fun K' hK'=>?_) ?_
   ·skip
    refine step_call3 54 ef35.out (by rfl) _ _ _ _ (by rfl) (.agg #[.slice a0 c.recs.length p0,.slice a1 c.globs.length p1,.slice a2 c.threads.length p2,.slice a3 c.sites.length p3,.slice a4 c.secs.length p4]) (.int .i64 s.th) (.int .i64 s.to) (by rfl) (by rfl) (by rfl) (C2.out _ R.out.bel) ?_
    rintro r' y11 ⟨rfl,hb⟩
    replace R:=hid (R.out.kept hb)
    replace V7:=hid (V7.out.kept hb)
    clear hb
    refine hK'.out _ _ (R.out.box) (fun hHeld=>?_)
    clear hHeld hK' K'
    try simp only [Act.put,sA,sB,sC]
    refine wO 12 ⟨some 6,.alloc 58,0,"code.go:58",#[],none⟩ (fun K' hK'=>?_)
    go_simp
    have L6:=hid R.out.s3.1
    try simp only [World.size_alloc,size_drew] at L6
    have V6:=hid (VarAt.new y11 [.int .i64 0,.int .i64 0,.int .i64 0,.int .i64 0,.int .i64 0,.int .i64 0,.slice none 0 0,.slice none 0 0] 58)
    try simp only [World.size_alloc,size_drew] at V6
    have neq:=hid (Nat.ne_of_gt V7.out.lt)
    try simp only [World.size_alloc,size_drew] at neq
    replace V7:=hid (V7.out.past (.cells #[.int .i64 0,.int .i64 0,.int .i64 0,.int .i64 0,.int .i64 0,.int .i64 0,.slice none 0 0,.slice none 0 0] 58))
    replace R:=hid (R.out.past (.cells #[.int .i64 0,.int .i64 0,.int .i64 0,.int .i64 0,.int .i64 0,.int .i64 0,.slice none 0 0,.slice none 0 0] 58))
    refine hK'.out _ _ (R.out.box) (fun hHeld=>?_)
    clear hHeld hK' K'
    try simp only [Act.put,sA,sB,sC]
    refine wO 14 ⟨none,.store 58 (.tmp 6) (.tmp 13),0,"code.go:58",#[⟨12,.data⟩,⟨5,.data⟩,⟨11,.chain⟩,⟨0,.phase⟩,⟨1,.phase⟩,⟨2,.phase⟩,⟨3,.phase⟩,⟨4,.phase⟩,⟨5,.phase⟩,{ on:=6,ground:=Go.Ground.textOnly Go.Departure.lateStores },{ on:=7,ground:=Go.Ground.textOnly Go.Departure.lateStores },{ on:=8,ground:=Go.Ground.textOnly Go.Departure.lateStores },{ on:=9,ground:=Go.Ground.textOnly Go.Departure.lateStores },{ on:=10,ground:=Go.Ground.textOnly Go.Departure.lateStores },{ on:=11,ground:=Go.Ground.textOnly Go.Departure.lateStoresUnsure },⟨12,.phase⟩,⟨13,.phase⟩],none⟩ (fun K' hK'=>?_)
    refine step_store 58 _ _ (by rfl) (by rfl) _ (by rfl) [.int .i64 y1.op,.int .i64 y1.dst,.int .i64 y1.src,.int .i64 y1.rc,.int .i64 y1.n,.int .i64 y1.to,.slice i1 m1 r1,.slice i2 m2 r2] (by rfl) Z33.out (one8 _ _ _ _ _ _ _ _ _ _ _ _) _ 58 V6.out rfl rfl ?_
    intro w14 hv hu
    replace R:=hid (hu.rg R.out L6.out)
    replace V6:=hid hv
    replace V7:=hid (hu.var V7.out (by first | exact neq.out | exact neq.out.symm))
    clear hv hu
    refine hK'.out _ _ (R.out.box) (fun hHeld=>?_)
    clear hHeld hK' K'
    try simp only [Act.put,sA,sB,sC]
    refine wO 15 ⟨none,.store 58 (.tmp 7) (.tmp 19),0,"code.go:58",#[⟨13,.data⟩,⟨11,.data⟩,⟨14,.chain⟩,⟨0,.phase⟩,⟨1,.phase⟩,⟨2,.phase⟩,⟨3,.phase⟩,⟨4,.phase⟩,⟨5,.phase⟩,⟨6,.phase⟩,⟨7,.phase⟩,⟨8,.phase⟩,⟨9,.phase⟩,⟨10,.phase⟩,⟨11,.phase⟩,⟨12,.phase⟩,⟨13,.phase⟩,⟨14,.phase⟩],none⟩ (fun K' hK'=>?_)
    refine step_store 58 _ _ (by rfl) (by rfl) _ (by rfl) [.int .i64 y2.op,.int .i64 y2.dst,.int .i64 y2.src,.int .i64 y2.rc,.int .i64 y2.n,.int .i64 y2.to,.slice i3 m3 r3,.slice i4 m4 r4] (by rfl) Z33.out (one8 _ _ _ _ _ _ _ _ _ _ _ _) _ 58 V7.out rfl rfl ?_
    intro w15 hv hu
    replace R:=hid (hu.rg R.out L7.out)
    replace V7:=hid hv
    replace V6:=hid (hu.var V6.out (by first | exact neq.out | exact neq.out.symm))
    clear hv hu
    refine hK'.out _ _ (R.out.box) (fun hHeld=>?_)
    clear hHeld hK' K'
    try simp only [Act.put,sA,sB,sC]
    refine wpAnyH_done (by kernel_rfl) ?_ _
    go_wp2_with fail
    go_meet
    case rel=>exact ⟨_,_,rfl,rfl,R,V6,V7⟩
   refine AllReadyH.cons (o:=⟨some 6,.alloc 58,0,"code.go:58",#[],none⟩) rfl (fun K' hK'=>?_) AllReadyH.nil
   go_simp
   have L6:=hid R.out.s3.1
   try simp only [World.size_alloc,size_drew] at L6
   have V6:=hid (VarAt.new (World.alloc y5 (.cells #[.int .i64 0,.int .i64 0,.int .i64 0,.int .i64 0,.int .i64 0,.int .i64 0,.slice none 0 0,.slice none 0 0] 58)) [.int .i64 0,.int .i64 0,.int .i64 0,.int .i64 0,.int .i64 0,.int .i64 0,.slice none 0 0,.slice none 0 0] 58)
   try simp only [World.size_alloc,size_drew] at V6
   have neq:=hid (Nat.ne_of_gt V7.out.lt)
   try simp only [World.size_alloc,size_drew] at neq
   replace V7:=hid (V7.out.past (.cells #[.int .i64 0,.int .i64 0,.int .i64 0,.int .i64 0,.int .i64 0,.int .i64 0,.slice none 0 0,.slice none 0 0] 58))
   replace R:=hid (R.out.past (.cells #[.int .i64 0,.int .i64 0,.int .i64 0,.int .i64 0,.int .i64 0,.int .i64 0,.slice none 0 0,.slice none 0 0] 58))
   refine hK'.out _ _ (R.out.box) (fun hHeld=>?_)
   clear hHeld hK' K'
   try simp only [Act.put,sA,sB,sC]
   refine wO 11 ⟨some 19,.call ⟨.value (.func 54),#[.tmp 14,.tmp 16,.tmp 18],#[41,3,3]⟩,58,"code.go:58",#[⟨6,.data⟩,⟨8,.data⟩,⟨10,.data⟩,⟨5,.chain⟩],none⟩ (fun K' hK'=>?_)
   refine step_call3 54 ef35.out (by rfl) _ _ _ _ (by rfl) (.agg #[.slice a0 c.recs.length p0,.slice a1 c.globs.length p1,.slice a2 c.threads.length p2,.slice a3 c.sites.length p3,.slice a4 c.secs.length p4]) (.int .i64 s.th) (.int .i64 s.to) (by rfl) (by rfl) (by rfl) (C2.out _ R.out.bel) ?_
   rintro r' y11 ⟨rfl,hb⟩
   replace R:=hid (R.out.kept hb)
   replace V6:=hid (V6.out.kept hb)
   replace V7:=hid (V7.out.kept hb)
   clear hb
   refine hK'.out _ _ (R.out.box) (fun hHeld=>?_)
   clear hHeld hK' K'
   try simp only [Act.put,sA,sB,sC]
   refine wO 14 ⟨none,.store 58 (.tmp 6) (.tmp 13),0,"code.go:58",#[⟨12,.data⟩,⟨5,.data⟩,⟨11,.chain⟩,⟨0,.phase⟩,⟨1,.phase⟩,⟨2,.phase⟩,⟨3,.phase⟩,⟨4,.phase⟩,⟨5,.phase⟩,{ on:=6,ground:=Go.Ground.textOnly Go.Departure.lateStores },{ on:=7,ground:=Go.Ground.textOnly Go.Departure.lateStores },{ on:=8,ground:=Go.Ground.textOnly Go.Departure.lateStores },{ on:=9,ground:=Go.Ground.textOnly Go.Departure.lateStores },{ on:=10,ground:=Go.Ground.textOnly Go.Departure.lateStores },{ on:=11,ground:=Go.Ground.textOnly Go.Departure.lateStoresUnsure },⟨12,.phase⟩,⟨13,.phase⟩],none⟩ (fun K' hK'=>?_)
   refine step_store 58 _ _ (by rfl) (by rfl) _ (by rfl) [.int .i64 y1.op,.int .i64 y1.dst,.int .i64 y1.src,.int .i64 y1.rc,.int .i64 y1.n,.int .i64 y1.to,.slice i1 m1 r1,.slice i2 m2 r2] (by rfl) Z33.out (one8 _ _ _ _ _ _ _ _ _ _ _ _) _ 58 V6.out rfl rfl ?_
   intro w14 hv hu
   replace R:=hid (hu.rg R.out L6.out)
   replace V6:=hid hv
   replace V7:=hid (hu.var V7.out (by first | exact neq.out | exact neq.out.symm))
   clear hv hu
   refine hK'.out _ _ (R.out.box) (fun hHeld=>?_)
   clear hHeld hK' K'
   try simp only [Act.put,sA,sB,sC]
   refine wO 15 ⟨none,.store 58 (.tmp 7) (.tmp 19),0,"code.go:58",#[⟨13,.data⟩,⟨11,.data⟩,⟨14,.chain⟩,⟨0,.phase⟩,⟨1,.phase⟩,⟨2,.phase⟩,⟨3,.phase⟩,⟨4,.phase⟩,⟨5,.phase⟩,⟨6,.phase⟩,⟨7,.phase⟩,⟨8,.phase⟩,⟨9,.phase⟩,⟨10,.phase⟩,⟨11,.phase⟩,⟨12,.phase⟩,⟨13,.phase⟩,⟨14,.phase⟩],none⟩ (fun K' hK'=>?_)
   refine step_store 58 _ _ (by rfl) (by rfl) _ (by rfl) [.int .i64 y2.op,.int .i64 y2.dst,.int .i64 y2.src,.int .i64 y2.rc,.int .i64 y2.n,.int .i64 y2.to,.slice i3 m3 r3,.slice i4 m4 r4] (by rfl) Z33.out (one8 _ _ _ _ _ _ _ _ _ _ _ _) _ 58 V7.out rfl rfl ?_
   intro w15 hv hu
   replace R:=hid (hu.rg R.out L7.out)
   replace V7:=hid hv
   replace V6:=hid (hu.var V6.out (by first | exact neq.out | exact neq.out.symm))
   clear hv hu
   refine hK'.out _ _ (R.out.box) (fun hHeld=>?_)
   clear hHeld hK' K'
   try simp only [Act.put,sA,sB,sC]
   refine wpAnyH_done (by kernel_rfl) ?_ _
   go_wp2_with fail
   go_meet
   case rel=>exact ⟨_,_,rfl,rfl,R,V6,V7⟩
  refine AllReadyH.cons (o:=⟨some 6,.alloc 58,0,"code.go:58",#[],none⟩) rfl (fun K' hK'=>?_) ?_
  ·skip
   go_simp
   have L6:=hid R.out.s3.1
   try simp only [World.size_alloc,size_drew] at L6
   have V6:=hid (VarAt.new (w.alloc (.cells #[.int .i64 s.th,.int .i64 s.fr,.int .i64 s.to] 63)).drew [.int .i64 0,.int .i64 0,.int .i64 0,.int .i64 0,.int .i64 0,.int .i64 0,.slice none 0 0,.slice none 0 0] 58)
   try simp only [World.size_alloc,size_drew] at V6
   replace R:=hid (R.out.past (.cells #[.int .i64 0,.int .i64 0,.int .i64 0,.int .i64 0,.int .i64 0,.int .i64 0,.slice none 0 0,.slice none 0 0] 58))
   refine hK'.out _ _ (R.out.box) (fun hHeld=>?_)
   clear hHeld hK' K'
   try simp only [Act.put,sA,sB,sC]
   refine wpAnyH_ready (rs:=[5,13]) (by kernel_rfl) (by simp) ?_
   refine AllReadyH.cons (o:=⟨some 13,.call ⟨.value (.func 54),#[.tmp 8,.tmp 10,.tmp 12],#[41,3,3]⟩,58,"code.go:58",#[⟨0,.data⟩,⟨2,.data⟩,⟨4,.data⟩],none⟩) rfl (fun K' hK'=>?_) ?_
   ·skip
    refine step_call3 54 ef35.out (by rfl) _ _ _ _ (by rfl) (.agg #[.slice a0 c.recs.length p0,.slice a1 c.globs.length p1,.slice a2 c.threads.length p2,.slice a3 c.sites.length p3,.slice a4 c.secs.length p4]) (.int .i64 s.th) (.int .i64 s.fr) (by rfl) (by rfl) (by rfl) (C1.out _ R.out.bel) ?_
    rintro r' y5 ⟨rfl,hb⟩
    replace R:=hid (R.out.kept hb)
    replace V6:=hid (V6.out.kept hb)
    clear hb
    refine hK'.out _ _ (R.out.box) (fun hHeld=>?_)
    clear hHeld hK' K'
    try simp only [Act.put,sA,sB,sC]
    refine wpAnyH_ready (rs:=[11,13]) (by kernel_rfl) (by simp) ?_
    refine AllReadyH.cons (o:=⟨some 19,.call ⟨.value (.func 54),#[.tmp 14,.tmp 16,.tmp 18],#[41,3,3]⟩,58,"code.go:58",#[⟨6,.data⟩,⟨8,.data⟩,⟨10,.data⟩,⟨5,.chain⟩],none⟩) rfl (fun K' hK'=>?_) ?_
    ·skip
     refine step_call3 54 ef35.out (by rfl) _ _ _ _ (by rfl) (.agg #[.slice a0 c.recs.length p0,.slice a1 c.globs.length p1,.slice a2 c.threads.length p2,.slice a3 c.sites.length p3,.slice a4 c.secs.length p4]) (.int .i64 s.th) (.int .i64 s.to) (by rfl) (by rfl) (by rfl) (C2.out _ R.out.bel) ?_
     rintro r' y11 ⟨rfl,hb⟩
     replace R:=hid (R.out.kept hb)
     replace V6:=hid (V6.out.kept hb)
     clear hb
     refine hK'.out _ _ (R.out.box) (fun hHeld=>?_)
     clear hHeld hK' K'
     try simp only [Act.put,sA,sB,sC]
     refine wO 13 ⟨some 7,.alloc 58,0,"code.go:58",#[],none⟩ (fun K' hK'=>?_)
     go_simp
     have L7:=hid R.out.s3.1
     try simp only [World.size_alloc,size_drew] at L7
     have V7:=hid (VarAt.new y11 [.int .i64 0,.int .i64 0,.int .i64 0,.int .i64 0,.int .i64 0,.int .i64 0,.slice none 0 0,.slice none 0 0] 58)
     try simp only [World.size_alloc,size_drew] at V7
     have neq:=hid (Nat.ne_of_gt V6.out.lt)
     try simp only [World.size_alloc,size_drew] at neq
     replace V6:=hid (V6.out.past (.cells #[.int .i64 0,.int .i64 0,.int .i64 0,.int .i64 0,.int .i64 0,.int .i64 0,.slice none 0 0,.slice none 0 0] 58))
     replace R:=hid (R.out.past (.cells #[.int .i64 0,.int .i64 0,.int .i64 0,.int .i64 0,.int .i64 0,.int .i64 0,.slice none 0 0,.slice none 0 0] 58))
     refine hK'.out _ _ (R.out.box) (fun hHeld=>?_)
     clear hHeld hK' K'
     try simp only [Act.put,sA,sB,sC]
     refine wO 14 ⟨none,.store 58 (.tmp 6) (.tmp 13),0,"code.go:58",#[⟨12,.data⟩,⟨5,.data⟩,⟨11,.chain⟩,⟨0,.phase⟩,⟨1,.phase⟩,⟨2,.phase⟩,⟨3,.phase⟩,⟨4,.phase⟩,⟨5,.phase⟩,{ on:=6,ground:=Go.Ground.textOnly Go.Departure.lateStores },{ on:=7,ground:=Go.Ground.textOnly Go.Departure.lateStores },{ on:=8,ground:=Go.Ground.textOnly Go.Departure.lateStores },{ on:=9,ground:=Go.Ground.textOnly Go.Departure.lateStores },{ on:=10,ground:=Go.Ground.textOnly Go.Departure.lateStores },{ on:=11,ground:=Go.Ground.textOnly Go.Departure.lateStoresUnsure },⟨12,.phase⟩,⟨13,.phase⟩],none⟩ (fun K' hK'=>?_)
     refine step_store 58 _ _ (by rfl) (by rfl) _ (by rfl) [.int .i64 y1.op,.int .i64 y1.dst,.int .i64 y1.src,.int .i64 y1.rc,.int .i64 y1.n,.int .i64 y1.to,.slice i1 m1 r1,.slice i2 m2 r2] (by rfl) Z33.out (one8 _ _ _ _ _ _ _ _ _ _ _ _) _ 58 V6.out rfl rfl ?_
     intro w14 hv hu
     replace R:=hid (hu.rg R.out L6.out)
     replace V6:=hid hv
     replace V7:=hid (hu.var V7.out (by first | exact neq.out | exact neq.out.symm))
     clear hv hu
     refine hK'.out _ _ (R.out.box) (fun hHeld=>?_)
     clear hHeld hK' K'
     try simp only [Act.put,sA,sB,sC]
     refine wO 15 ⟨none,.store 58 (.tmp 7) (.tmp 19),0,"code.go:58",#[⟨13,.data⟩,⟨11,.data⟩,⟨14,.chain⟩,⟨0,.phase⟩,⟨1,.phase⟩,⟨2,.phase⟩,⟨3,.phase⟩,⟨4,.phase⟩,⟨5,.phase⟩,⟨6,.phase⟩,⟨7,.phase⟩,⟨8,.phase⟩,⟨9,.phase⟩,⟨10,.phase⟩,⟨11,.phase⟩,⟨12,.phase⟩,⟨13,.phase⟩,⟨14,.phase⟩],none⟩ (fun K' hK'=>?_)
     refine step_store 58 _ _ (by rfl) (by rfl) _ (by rfl) [.int .i64 y2.op,.int .i64 y2.dst,.int .i64 y2.src,.int .i64 y2.rc,.int .i64 y2.n,.int .i64 y2.to,.slice i3 m3 r3,.slice i4 m4 r4] (by rfl) Z33.out (one8 _ _ _ _ _ _ _ _ _ _ _ _) _ 58 V7.out rfl rfl ?_
     intro w15 hv hu
     replace R:=hid (hu.rg R.out L7.out)
     replace V7:=hid hv
     replace V6:=hid (hu.var V6.out (by first | exact neq.out | exact neq.out.symm))
     clear hv hu
     refine hK'.out _ _ (R.out.box) (fun hHeld=>?_)
     clear hHeld hK' K'
     try simp only [Act.put,sA,sB,sC]
     refine wpAnyH_done (by kernel_rfl) ?_ _
     go_wp2_with fail
     go_meet
     case rel=>exact ⟨_,_,rfl,rfl,R,V6,V7⟩
    refine AllReadyH.cons (o:=⟨some 7,.alloc 58,0,"code.go:58",#[],none⟩) rfl (fun K' hK'=>?_) AllReadyH.nil
    go_simp
    have L7:=hid R.out.s3.1
    try simp only [World.size_alloc,size_drew] at L7
    have V7:=hid (VarAt.new y5 [.int .i64 0,.int .i64 0,.int .i64 0,.int .i64 0,.int .i64 0,.int .i64 0,.slice none 0 0,.slice none 0 0] 58)
    try simp only [World.size_alloc,size_drew] at V7
    have neq:=hid (Nat.ne_of_gt V6.out.lt)
    try simp only [World.size_alloc,size_drew] at neq
    replace V6:=hid (V6.out.past (.cells #[.int .i64 0,.int .i64 0,.int .i64 0,.int .i64 0,.int .i64 0,.int .i64 0,.slice none 0 0,.slice none 0 0] 58))
    replace R:=hid (R.out.past (.cells #[.int .i64 0,.int .i64 0,.int .i64 0,.int .i64 0,.int .i64 0,.int .i64 0,.slice none 0 0,.slice none 0 0] 58))
    refine hK'.out _ _ (R.out.box) (fun hHeld=>?_)
    clear hHeld hK' K'
    try simp only [Act.put,sA,sB,sC]
    refine wO 11 ⟨some 19,.call ⟨.value (.func 54),#[.tmp 14,.tmp 16,.tmp 18],#[41,3,3]⟩,58,"code.go:58",#[⟨6,.data⟩,⟨8,.data⟩,⟨10,.data⟩,⟨5,.chain⟩],none⟩ (fun K' hK'=>?_)
    refine step_call3 54 ef35.out (by rfl) _ _ _ _ (by rfl) (.agg #[.slice a0 c.recs.length p0,.slice a1 c.globs.length p1,.slice a2 c.threads.length p2,.slice a3 c.sites.length p3,.slice a4 c.secs.length p4]) (.int .i64 s.th) (.int .i64 s.to) (by rfl) (by rfl) (by rfl) (C2.out _ R.out.bel) ?_
    rintro r' y11 ⟨rfl,hb⟩
    replace R:=hid (R.out.kept hb)
    replace V6:=hid (V6.out.kept hb)
    replace V7:=hid (V7.out.kept hb)
    clear hb
    refine hK'.out _ _ (R.out.box) (fun hHeld=>?_)
    clear hHeld hK' K'
    try simp only [Act.put,sA,sB,sC]
    refine wO 14 ⟨none,.store 58 (.tmp 6) (.tmp 13),0,"code.go:58",#[⟨12,.data⟩,⟨5,.data⟩,⟨11,.chain⟩,⟨0,.phase⟩,⟨1,.phase⟩,⟨2,.phase⟩,⟨3,.phase⟩,⟨4,.phase⟩,⟨5,.phase⟩,{ on:=6,ground:=Go.Ground.textOnly Go.Departure.lateStores },{ on:=7,ground:=Go.Ground.textOnly Go.Departure.lateStores },{ on:=8,ground:=Go.Ground.textOnly Go.Departure.lateStores },{ on:=9,ground:=Go.Ground.textOnly Go.Departure.lateStores },{ on:=10,ground:=Go.Ground.textOnly Go.Departure.lateStores },{ on:=11,ground:=Go.Ground.textOnly Go.Departure.lateStoresUnsure },⟨12,.phase⟩,⟨13,.phase⟩],none⟩ (fun K' hK'=>?_)
    refine step_store 58 _ _ (by rfl) (by rfl) _ (by rfl) [.int .i64 y1.op,.int .i64 y1.dst,.int .i64 y1.src,.int .i64 y1.rc,.int .i64 y1.n,.int .i64 y1.to,.slice i1 m1 r1,.slice i2 m2 r2] (by rfl) Z33.out (one8 _ _ _ _ _ _ _ _ _ _ _ _) _ 58 V6.out rfl rfl ?_
    intro w14 hv hu
    replace R:=hid (hu.rg R.out L6.out)
    replace V6:=hid hv
    replace V7:=hid (hu.var V7.out (by first | exact neq.out | exact neq.out.symm))
    clear hv hu
    refine hK'.out _ _ (R.out.box) (fun hHeld=>?_)
    clear hHeld hK' K'
    try simp only [Act.put,sA,sB,sC]
    refine wO 15 ⟨none,.store 58 (.tmp 7) (.tmp 19),0,"code.go:58",#[⟨13,.data⟩,⟨11,.data⟩,⟨14,.chain⟩,⟨0,.phase⟩,⟨1,.phase⟩,⟨2,.phase⟩,⟨3,.phase⟩,⟨4,.phase⟩,⟨5,.phase⟩,⟨6,.phase⟩,⟨7,.phase⟩,⟨8,.phase⟩,⟨9,.phase⟩,⟨10,.phase⟩,⟨11,.phase⟩,⟨12,.phase⟩,⟨13,.phase⟩,⟨14,.phase⟩],none⟩ (fun K' hK'=>?_)
    refine step_store 58 _ _ (by rfl) (by rfl) _ (by rfl) [.int .i64 y2.op,.int .i64 y2.dst,.int .i64 y2.src,.int .i64 y2.rc,.int .i64 y2.n,.int .i64 y2.to,.slice i3 m3 r3,.slice i4 m4 r4] (by rfl) Z33.out (one8 _ _ _ _ _ _ _ _ _ _ _ _) _ 58 V7.out rfl rfl ?_
    intro w15 hv hu
    replace R:=hid (hu.rg R.out L7.out)
    replace V7:=hid hv
    replace V6:=hid (hu.var V6.out (by first | exact neq.out | exact neq.out.symm))
    clear hv hu
    refine hK'.out _ _ (R.out.box) (fun hHeld=>?_)
    clear hHeld hK' K'
    try simp only [Act.put,sA,sB,sC]
    refine wpAnyH_done (by kernel_rfl) ?_ _
    go_wp2_with fail
    go_meet
    case rel=>exact ⟨_,_,rfl,rfl,R,V6,V7⟩
   refine AllReadyH.cons (o:=⟨some 7,.alloc 58,0,"code.go:58",#[],none⟩) rfl (fun K' hK'=>?_) AllReadyH.nil
   go_simp
   have L7:=hid R.out.s3.1
   try simp only [World.size_alloc,size_drew] at L7
   have V7:=hid (VarAt.new (World.alloc (w.alloc (.cells #[.int .i64 s.th,.int .i64 s.fr,.int .i64 s.to] 63)).drew (.cells #[.int .i64 0,.int .i64 0,.int .i64 0,.int .i64 0,.int .i64 0,.int .i64 0,.slice none 0 0,.slice none 0 0] 58)) [.int .i64 0,.int .i64 0,.int .i64 0,.int .i64 0,.int .i64 0,.int .i64 0,.slice none 0 0,.slice none 0 0] 58)
   try simp only [World.size_alloc,size_drew] at V7
   have neq:=hid (Nat.ne_of_gt V6.out.lt)
   try simp only [World.size_alloc,size_drew] at neq
   replace V6:=hid (V6.out.past (.cells #[.int .i64 0,.int .i64 0,.int .i64 0,.int .i64 0,.int .i64 0,.int .i64 0,.slice none 0 0,.slice none 0 0] 58))
   replace R:=hid (R.out.past (.cells #[.int .i64 0,.int .i64 0,.int .i64 0,.int .i64 0,.int .i64 0,.int .i64 0,.slice none 0 0,.slice none 0 0] 58))
   refine hK'.out _ _ (R.out.box) (fun hHeld=>?_)
   clear hHeld hK' K'
   try simp only [Act.put,sA,sB,sC]
   refine wO 5 ⟨some 13,.call ⟨.value (.func 54),#[.tmp 8,.tmp 10,.tmp 12],#[41,3,3]⟩,58,"code.go:58",#[⟨0,.data⟩,⟨2,.data⟩,⟨4,.data⟩],none⟩ (fun K' hK'=>?_)
   refine step_call3 54 ef35.out (by rfl) _ _ _ _ (by rfl) (.agg #[.slice a0 c.recs.length p0,.slice a1 c.globs.length p1,.slice a2 c.threads.length p2,.slice a3 c.sites.length p3,.slice a4 c.secs.length p4]) (.int .i64 s.th) (.int .i64 s.fr) (by rfl) (by rfl) (by rfl) (C1.out _ R.out.bel) ?_
   rintro r' y5 ⟨rfl,hb⟩
   replace R:=hid (R.out.kept hb)
   replace V6:=hid (V6.out.kept hb)
   replace V7:=hid (V7.out.kept hb)
   clear hb
   refine hK'.out _ _ (R.out.box) (fun hHeld=>?_)
   clear hHeld hK' K'
   try simp only [Act.put,sA,sB,sC]
   refine wO 11 ⟨some 19,.call ⟨.value (.func 54),#[.tmp 14,.tmp 16,.tmp 18],#[41,3,3]⟩,58,"code.go:58",#[⟨6,.data⟩,⟨8,.data⟩,⟨10,.data⟩,⟨5,.chain⟩],none⟩ (fun K' hK'=>?_)
   refine step_call3 54 ef35.out (by rfl) _ _ _ _ (by rfl) (.agg #[.slice a0 c.recs.length p0,.slice a1 c.globs.length p1,.slice a2 c.threads.length p2,.slice a3 c.sites.length p3,.slice a4 c.secs.length p4]) (.int .i64 s.th) (.int .i64 s.to) (by rfl) (by rfl) (by rfl) (C2.out _ R.out.bel) ?_
   rintro r' y11 ⟨rfl,hb⟩
   replace R:=hid (R.out.kept hb)
   replace V6:=hid (V6.out.kept hb)
   replace V7:=hid (V7.out.kept hb)
   clear hb
   refine hK'.out _ _ (R.out.box) (fun hHeld=>?_)
   clear hHeld hK' K'
   try simp only [Act.put,sA,sB,sC]
   refine wO 14 ⟨none,.store 58 (.tmp 6) (.tmp 13),0,"code.go:58",#[⟨12,.data⟩,⟨5,.data⟩,⟨11,.chain⟩,⟨0,.phase⟩,⟨1,.phase⟩,⟨2,.phase⟩,⟨3,.phase⟩,⟨4,.phase⟩,⟨5,.phase⟩,{ on:=6,ground:=Go.Ground.textOnly Go.Departure.lateStores },{ on:=7,ground:=Go.Ground.textOnly Go.Departure.lateStores },{ on:=8,ground:=Go.Ground.textOnly Go.Departure.lateStores },{ on:=9,ground:=Go.Ground.textOnly Go.Departure.lateStores },{ on:=10,ground:=Go.Ground.textOnly Go.Departure.lateStores },{ on:=11,ground:=Go.Ground.textOnly Go.Departure.lateStoresUnsure },⟨12,.phase⟩,⟨13,.phase⟩],none⟩ (fun K' hK'=>?_)
   refine step_store 58 _ _ (by rfl) (by rfl) _ (by rfl) [.int .i64 y1.op,.int .i64 y1.dst,.int .i64 y1.src,.int .i64 y1.rc,.int .i64 y1.n,.int .i64 y1.to,.slice i1 m1 r1,.slice i2 m2 r2] (by rfl) Z33.out (one8 _ _ _ _ _ _ _ _ _ _ _ _) _ 58 V6.out rfl rfl ?_
   intro w14 hv hu
   replace R:=hid (hu.rg R.out L6.out)
   replace V6:=hid hv
   replace V7:=hid (hu.var V7.out (by first | exact neq.out | exact neq.out.symm))
   clear hv hu
   refine hK'.out _ _ (R.out.box) (fun hHeld=>?_)
   clear hHeld hK' K'
   try simp only [Act.put,sA,sB,sC]
   refine wO 15 ⟨none,.store 58 (.tmp 7) (.tmp 19),0,"code.go:58",#[⟨13,.data⟩,⟨11,.data⟩,⟨14,.chain⟩,⟨0,.phase⟩,⟨1,.phase⟩,⟨2,.phase⟩,⟨3,.phase⟩,⟨4,.phase⟩,⟨5,.phase⟩,⟨6,.phase⟩,⟨7,.phase⟩,⟨8,.phase⟩,⟨9,.phase⟩,⟨10,.phase⟩,⟨11,.phase⟩,⟨12,.phase⟩,⟨13,.phase⟩,⟨14,.phase⟩],none⟩ (fun K' hK'=>?_)
   refine step_store 58 _ _ (by rfl) (by rfl) _ (by rfl) [.int .i64 y2.op,.int .i64 y2.dst,.int .i64 y2.src,.int .i64 y2.rc,.int .i64 y2.n,.int .i64 y2.to,.slice i3 m3 r3,.slice i4 m4 r4] (by rfl) Z33.out (one8 _ _ _ _ _ _ _ _ _ _ _ _) _ 58 V7.out rfl rfl ?_
   intro w15 hv hu
   replace R:=hid (hu.rg R.out L7.out)
   replace V7:=hid hv
   replace V6:=hid (hu.var V6.out (by first | exact neq.out | exact neq.out.symm))
   clear hv hu
   refine hK'.out _ _ (R.out.box) (fun hHeld=>?_)
   clear hHeld hK' K'
   try simp only [Act.put,sA,sB,sC]
   refine wpAnyH_done (by kernel_rfl) ?_ _
   go_wp2_with fail
   go_meet
   case rel=>exact ⟨_,_,rfl,rfl,R,V6,V7⟩
  refine AllReadyH.cons (o:=⟨some 7,.alloc 58,0,"code.go:58",#[],none⟩) rfl (fun K' hK'=>?_) AllReadyH.nil
  go_simp
  have L7:=hid R.out.s3.1
  try simp only [World.size_alloc,size_drew] at L7
  have V7:=hid (VarAt.new (w.alloc (.cells #[.int .i64 s.th,.int .i64 s.fr,.int .i64 s.to] 63)).drew [.int .i64 0,.int .i64 0,.int .i64 0,.int .i64 0,.int .i64 0,.int .i64 0,.slice none 0 0,.slice none 0 0] 58)
  try simp only [World.size_alloc,size_drew] at V7
  replace R:=hid (R.out.past (.cells #[.int .i64 0,.int .i64 0,.int .i64 0,.int .i64 0,.int .i64 0,.int .i64 0,.slice none 0 0,.slice none 0 0] 58))
  refine hK'.out _ _ (R.out.box) (fun hHeld=>?_)
  clear hHeld hK' K'
  try simp only [Act.put,sA,sB,sC]
  refine wpAnyH_ready (rs:=[5,12]) (by kernel_rfl) (by simp) ?_
  refine AllReadyH.cons (o:=⟨some 13,.call ⟨.value (.func 54),#[.tmp 8,.tmp 10,.tmp 12],#[41,3,3]⟩,58,"code.go:58",#[⟨0,.data⟩,⟨2,.data⟩,⟨4,.data⟩],none⟩) rfl (fun K' hK'=>?_) ?_
  ·skip
   refine step_call3 54 ef35.out (by rfl) _ _ _ _ (by rfl) (.agg #[.slice a0 c.recs.length p0,.slice a1 c.globs.length p1,.slice a2 c.threads.length p2,.slice a3 c.sites.length p3,.slice a4 c.secs.length p4]) (.int .i64 s.th) (.int .i64 s.fr) (by rfl) (by rfl) (by rfl) (C1.out _ R.out.bel) ?_
   rintro r' y5 ⟨rfl,hb⟩
   replace R:=hid (R.out.kept hb)
   replace V7:=hid (V7.out.kept hb)
   clear hb
   refine hK'.out _ _ (R.out.box) (fun hHeld=>?_)
   clear hHeld hK' K'
   try simp only [Act.put,sA,sB,sC]
   refine wpAnyH_ready (rs:=[11,12]) (by kernel_rfl) (by simp) ?_
   refine AllReadyH.cons (o:=⟨some 19,.call ⟨.value (.func 54),#[.tmp 14,.tmp 16,.tmp 18],#[41,3,3]⟩,58,"code.go:58",#[⟨6,.data⟩,⟨8,.data⟩,⟨10,.data⟩,⟨5,.chain⟩],none⟩) rfl (fun K' hK'=>?_) ?_
   ·skip
    refine step_call3 54 ef35.out (by rfl) _ _ _ _ (by rfl) (.agg #[.slice a0 c.recs.length p0,.slice a1 c.globs.length p1,.slice a2 c.threads.length p2,.slice a3 c.sites.length p3,.slice a4 c.secs.length p4]) (.int .i64 s.th) (.int .i64 s.to) (by rfl) (by rfl) (by rfl) (C2.out _ R.out.bel) ?_
    rintro r' y11 ⟨rfl,hb⟩
    replace R:=hid (R.out.kept hb)
    replace V7:=hid (V7.out.kept hb)
    clear hb
    refine hK'.out _ _ (R.out.box) (fun hHeld=>?_)
    clear hHeld hK' K'
    try simp only [Act.put,sA,sB,sC]
    refine wO 12 ⟨some 6,.alloc 58,0,"code.go:58",#[],none⟩ (fun K' hK'=>?_)
    go_simp
    have L6:=hid R.out.s3.1
    try simp only [World.size_alloc,size_drew] at L6
    have V6:=hid (VarAt.new y11 [.int .i64 0,.int .i64 0,.int .i64 0,.int .i64 0,.int .i64 0,.int .i64 0,.slice none 0 0,.slice none 0 0] 58)
    try simp only [World.size_alloc,size_drew] at V6
    have neq:=hid (Nat.ne_of_gt V7.out.lt)
    try simp only [World.size_alloc,size_drew] at neq
    replace V7:=hid (V7.out.past (.cells #[.int .i64 0,.int .i64 0,.int .i64 0,.int .i64 0,.int .i64 0,.int .i64 0,.slice none 0 0,.slice none 0 0] 58))
    replace R:=hid (R.out.past (.cells #[.int .i64 0,.int .i64 0,.int .i64 0,.int .i64 0,.int .i64 0,.int .i64 0,.slice none 0 0,.slice none 0 0] 58))
    refine hK'.out _ _ (R.out.box) (fun hHeld=>?_)
    clear hHeld hK' K'
    try simp only [Act.put,sA,sB,sC]
    refine wO 14 ⟨none,.store 58 (.tmp 6) (.tmp 13),0,"code.go:58",#[⟨12,.data⟩,⟨5,.data⟩,⟨11,.chain⟩,⟨0,.phase⟩,⟨1,.phase⟩,⟨2,.phase⟩,⟨3,.phase⟩,⟨4,.phase⟩,⟨5,.phase⟩,{ on:=6,ground:=Go.Ground.textOnly Go.Departure.lateStores },{ on:=7,ground:=Go.Ground.textOnly Go.Departure.lateStores },{ on:=8,ground:=Go.Ground.textOnly Go.Departure.lateStores },{ on:=9,ground:=Go.Ground.textOnly Go.Departure.lateStores },{ on:=10,ground:=Go.Ground.textOnly Go.Departure.lateStores },{ on:=11,ground:=Go.Ground.textOnly Go.Departure.lateStoresUnsure },⟨12,.phase⟩,⟨13,.phase⟩],none⟩ (fun K' hK'=>?_)
    refine step_store 58 _ _ (by rfl) (by rfl) _ (by rfl) [.int .i64 y1.op,.int .i64 y1.dst,.int .i64 y1.src,.int .i64 y1.rc,.int .i64 y1.n,.int .i64 y1.to,.slice i1 m1 r1,.slice i2 m2 r2] (by rfl) Z33.out (one8 _ _ _ _ _ _ _ _ _ _ _ _) _ 58 V6.out rfl rfl ?_
    intro w14 hv hu
    replace R:=hid (hu.rg R.out L6.out)
    replace V6:=hid hv
    replace V7:=hid (hu.var V7.out (by first | exact neq.out | exact neq.out.symm))
    clear hv hu
    refine hK'.out _ _ (R.out.box) (fun hHeld=>?_)
    clear hHeld hK' K'
    try simp only [Act.put,sA,sB,sC]
    refine wO 15 ⟨none,.store 58 (.tmp 7) (.tmp 19),0,"code.go:58",#[⟨13,.data⟩,⟨11,.data⟩,⟨14,.chain⟩,⟨0,.phase⟩,⟨1,.phase⟩,⟨2,.phase⟩,⟨3,.phase⟩,⟨4,.phase⟩,⟨5,.phase⟩,⟨6,.phase⟩,⟨7,.phase⟩,⟨8,.phase⟩,⟨9,.phase⟩,⟨10,.phase⟩,⟨11,.phase⟩,⟨12,.phase⟩,⟨13,.phase⟩,⟨14,.phase⟩],none⟩ (fun K' hK'=>?_)
    refine step_store 58 _ _ (by rfl) (by rfl) _ (by rfl) [.int .i64 y2.op,.int .i64 y2.dst,.int .i64 y2.src,.int .i64 y2.rc,.int .i64 y2.n,.int .i64 y2.to,.slice i3 m3 r3,.slice i4 m4 r4] (by rfl) Z33.out (one8 _ _ _ _ _ _ _ _ _ _ _ _) _ 58 V7.out rfl rfl ?_
    intro w15 hv hu
    replace R:=hid (hu.rg R.out L7.out)
    replace V7:=hid hv
    replace V6:=hid (hu.var V6.out (by first | exact neq.out | exact neq.out.symm))
    clear hv hu
    refine hK'.out _ _ (R.out.box) (fun hHeld=>?_)
    clear hHeld hK' K'
    try simp only [Act.put,sA,sB,sC]
    refine wpAnyH_done (by kernel_rfl) ?_ _
    go_wp2_with fail
    go_meet
    case rel=>exact ⟨_,_,rfl,rfl,R,V6,V7⟩
   refine AllReadyH.cons (o:=⟨some 6,.alloc 58,0,"code.go:58",#[],none⟩) rfl (fun K' hK'=>?_) AllReadyH.nil
   go_simp
   have L6:=hid R.out.s3.1
   try simp only [World.size_alloc,size_drew] at L6
   have V6:=hid (VarAt.new y5 [.int .i64 0,.int .i64 0,.int .i64 0,.int .i64 0,.int .i64 0,.int .i64 0,.slice none 0 0,.slice none 0 0] 58)
   try simp only [World.size_alloc,size_drew] at V6
   have neq:=hid (Nat.ne_of_gt V7.out.lt)
   try simp only [World.size_alloc,size_drew] at neq
   replace V7:=hid (V7.out.past (.cells #[.int .i64 0,.int .i64 0,.int .i64 0,.int .i64 0,.int .i64 0,.int .i64 0,.slice none 0 0,.slice none 0 0] 58))
   replace R:=hid (R.out.past (.cells #[.int .i64 0,.int .i64 0,.int .i64 0,.int .i64 0,.int .i64 0,.int .i64 0,.slice none 0 0,.slice none 0 0] 58))
   refine hK'.out _ _ (R.out.box) (fun hHeld=>?_)
   clear hHeld hK' K'
   try simp only [Act.put,sA,sB,sC]
   refine wO 11 ⟨some 19,.call ⟨.value (.func 54),#[.tmp 14,.tmp 16,.tmp 18],#[41,3,3]⟩,58,"code.go:58",#[⟨6,.data⟩,⟨8,.data⟩,⟨10,.data⟩,⟨5,.chain⟩],none⟩ (fun K' hK'=>?_)
   refine step_call3 54 ef35.out (by rfl) _ _ _ _ (by rfl) (.agg #[.slice a0 c.recs.length p0,.slice a1 c.globs.length p1,.slice a2 c.threads.length p2,.slice a3 c.sites.length p3,.slice a4 c.secs.length p4]) (.int .i64 s.th) (.int .i64 s.to) (by rfl) (by rfl) (by rfl) (C2.out _ R.out.bel) ?_
   rintro r' y11 ⟨rfl,hb⟩
   replace R:=hid (R.out.kept hb)
   replace V6:=hid (V6.out.kept hb)
   replace V7:=hid (V7.out.kept hb)
   clear hb
   refine hK'.out _ _ (R.out.box) (fun hHeld=>?_)
   clear hHeld hK' K'
   try simp only [Act.put,sA,sB,sC]
   refine wO 14 ⟨none,.store 58 (.tmp 6) (.tmp 13),0,"code.go:58",#[⟨12,.data⟩,⟨5,.data⟩,⟨11,.chain⟩,⟨0,.phase⟩,⟨1,.phase⟩,⟨2,.phase⟩,⟨3,.phase⟩,⟨4,.phase⟩,⟨5,.phase⟩,{ on:=6,ground:=Go.Ground.textOnly Go.Departure.lateStores },{ on:=7,ground:=Go.Ground.textOnly Go.Departure.lateStores },{ on:=8,ground:=Go.Ground.textOnly Go.Departure.lateStores },{ on:=9,ground:=Go.Ground.textOnly Go.Departure.lateStores },{ on:=10,ground:=Go.Ground.textOnly Go.Departure.lateStores },{ on:=11,ground:=Go.Ground.textOnly Go.Departure.lateStoresUnsure },⟨12,.phase⟩,⟨13,.phase⟩],none⟩ (fun K' hK'=>?_)
   refine step_store 58 _ _ (by rfl) (by rfl) _ (by rfl) [.int .i64 y1.op,.int .i64 y1.dst,.int .i64 y1.src,.int .i64 y1.rc,.int .i64 y1.n,.int .i64 y1.to,.slice i1 m1 r1,.slice i2 m2 r2] (by rfl) Z33.out (one8 _ _ _ _ _ _ _ _ _ _ _ _) _ 58 V6.out rfl rfl ?_
   intro w14 hv hu
   replace R:=hid (hu.rg R.out L6.out)
   replace V6:=hid hv
   replace V7:=hid (hu.var V7.out (by first | exact neq.out | exact neq.out.symm))
   clear hv hu
   refine hK'.out _ _ (R.out.box) (fun hHeld=>?_)
   clear hHeld hK' K'
   try simp only [Act.put,sA,sB,sC]
   refine wO 15 ⟨none,.store 58 (.tmp 7) (.tmp 19),0,"code.go:58",#[⟨13,.data⟩,⟨11,.data⟩,⟨14,.chain⟩,⟨0,.phase⟩,⟨1,.phase⟩,⟨2,.phase⟩,⟨3,.phase⟩,⟨4,.phase⟩,⟨5,.phase⟩,⟨6,.phase⟩,⟨7,.phase⟩,⟨8,.phase⟩,⟨9,.phase⟩,⟨10,.phase⟩,⟨11,.phase⟩,⟨12,.phase⟩,⟨13,.phase⟩,⟨14,.phase⟩],none⟩ (fun K' hK'=>?_)
   refine step_store 58 _ _ (by rfl) (by rfl) _ (by rfl) [.int .i64 y2.op,.int .i64 y2.dst,.int .i64 y2.src,.int .i64 y2.rc,.int .i64 y2.n,.int .i64 y2.to,.slice i3 m3 r3,.slice i4 m4 r4] (by rfl) Z33.out (one8 _ _ _ _ _ _ _ _ _ _ _ _) _ 58 V7.out rfl rfl ?_
   intro w15 hv hu
   replace R:=hid (hu.rg R.out L7.out)
   replace V7:=hid hv
   replace V6:=hid (hu.var V6.out (by first | exact neq.out | exact neq.out.symm))
   clear hv hu
   refine hK'.out _ _ (R.out.box) (fun hHeld=>?_)
   clear hHeld hK' K'
   try simp only [Act.put,sA,sB,sC]
   refine wpAnyH_done (by kernel_rfl) ?_ _
   go_wp2_with fail
   go_meet
   case rel=>exact ⟨_,_,rfl,rfl,R,V6,V7⟩
  refine AllReadyH.cons (o:=⟨some 6,.alloc 58,0,"code.go:58",#[],none⟩) rfl (fun K' hK'=>?_) AllReadyH.nil
  go_simp
  have L6:=hid R.out.s3.1
  try simp only [World.size_alloc,size_drew] at L6
  have V6:=hid (VarAt.new (World.alloc (w.alloc (.cells #[.int .i64 s.th,.int .i64 s.fr,.int .i64 s.to] 63)).drew (.cells #[.int .i64 0,.int .i64 0,.int .i64 0,.int .i64 0,.int .i64 0,.int .i64 0,.slice none 0 0,.slice none 0 0] 58)) [.int .i64 0,.int .i64 0,.int .i64 0,.int .i64 0,.int .i64 0,.int .i64 0,.slice none 0 0,.slice none 0 0] 58)
  try simp only [World.size_alloc,size_drew] at V6
  have neq:=hid (Nat.ne_of_gt V7.out.lt)
  try simp only [World.size_alloc,size_drew] at neq
  replace V7:=hid (V7.out.past (.cells #[.int .i64 0,.int .i64 0,.int .i64 0,.int .i64 0,.int .i64 0,.int .i64 0,.slice none 0 0,.slice none 0 0] 58))
  replace R:=hid (R.out.past (.cells #[.int .i64 0,.int .i64 0,.int .i64 0,.int .i64 0,.int .i64 0,.int .i64 0,.slice none 0 0,.slice none 0 0] 58))
  refine hK'.out _ _ (R.out.box) (fun hHeld=>?_)
  clear hHeld hK' K'
  try simp only [Act.put,sA,sB,sC]
  refine wO 5 ⟨some 13,.call ⟨.value (.func 54),#[.tmp 8,.tmp 10,.tmp 12],#[41,3,3]⟩,58,"code.go:58",#[⟨0,.data⟩,⟨2,.data⟩,⟨4,.data⟩],none⟩ (fun K' hK'=>?_)
  refine step_call3 54 ef35.out (by rfl) _ _ _ _ (by rfl) (.agg #[.slice a0 c.recs.length p0,.slice a1 c.globs.length p1,.slice a2 c.threads.length p2,.slice a3 c.sites.length p3,.slice a4 c.secs.length p4]) (.int .i64 s.th) (.int .i64 s.fr) (by rfl) (by rfl) (by rfl) (C1.out _ R.out.bel) ?_
  rintro r' y5 ⟨rfl,hb⟩
  replace R:=hid (R.out.kept hb)
  replace V6:=hid (V6.out.kept hb)
  replace V7:=hid (V7.out.kept hb)
  clear hb
  refine hK'.out _ _ (R.out.box) (fun hHeld=>?_)
  clear hHeld hK' K'
  try simp only [Act.put,sA,sB,sC]
  refine wO 11 ⟨some 19,.call ⟨.value (.func 54),#[.tmp 14,.tmp 16,.tmp 18],#[41,3,3]⟩,58,"code.go:58",#[⟨6,.data⟩,⟨8,.data⟩,⟨10,.data⟩,⟨5,.chain⟩],none⟩ (fun K' hK'=>?_)
  refine step_call3 54 ef35.out (by rfl) _ _ _ _ (by rfl) (.agg #[.slice a0 c.recs.length p0,.slice a1 c.globs.length p1,.slice a2 c.threads.length p2,.slice a3 c.sites.length p3,.slice a4 c.secs.length p4]) (.int .i64 s.th) (.int .i64 s.to) (by rfl) (by rfl) (by rfl) (C2.out _ R.out.bel) ?_
  rintro r' y11 ⟨rfl,hb⟩
  replace R:=hid (R.out.kept hb)
  replace V6:=hid (V6.out.kept hb)
  replace V7:=hid (V7.out.kept hb)
  clear hb
  refine hK'.out _ _ (R.out.box) (fun hHeld=>?_)
  clear hHeld hK' K'
  try simp only [Act.put,sA,sB,sC]
  refine wO 14 ⟨none,.store 58 (.tmp 6) (.tmp 13),0,"code.go:58",#[⟨12,.data⟩,⟨5,.data⟩,⟨11,.chain⟩,⟨0,.phase⟩,⟨1,.phase⟩,⟨2,.phase⟩,⟨3,.phase⟩,⟨4,.phase⟩,⟨5,.phase⟩,{ on:=6,ground:=Go.Ground.textOnly Go.Departure.lateStores },{ on:=7,ground:=Go.Ground.textOnly Go.Departure.lateStores },{ on:=8,ground:=Go.Ground.textOnly Go.Departure.lateStores },{ on:=9,ground:=Go.Ground.textOnly Go.Departure.lateStores },{ on:=10,ground:=Go.Ground.textOnly Go.Departure.lateStores },{ on:=11,ground:=Go.Ground.textOnly Go.Departure.lateStoresUnsure },⟨12,.phase⟩,⟨13,.phase⟩],none⟩ (fun K' hK'=>?_)
  refine step_store 58 _ _ (by rfl) (by rfl) _ (by rfl) [.int .i64 y1.op,.int .i64 y1.dst,.int .i64 y1.src,.int .i64 y1.rc,.int .i64 y1.n,.int .i64 y1.to,.slice i1 m1 r1,.slice i2 m2 r2] (by rfl) Z33.out (one8 _ _ _ _ _ _ _ _ _ _ _ _) _ 58 V6.out rfl rfl ?_
  intro w14 hv hu
  replace R:=hid (hu.rg R.out L6.out)
  replace V6:=hid hv
  replace V7:=hid (hu.var V7.out (by first | exact neq.out | exact neq.out.symm))
  clear hv hu
  refine hK'.out _ _ (R.out.box) (fun hHeld=>?_)
  clear hHeld hK' K'
  try simp only [Act.put,sA,sB,sC]
  refine wO 15 ⟨none,.store 58 (.tmp 7) (.tmp 19),0,"code.go:58",#[⟨13,.data⟩,⟨11,.data⟩,⟨14,.chain⟩,⟨0,.phase⟩,⟨1,.phase⟩,⟨2,.phase⟩,⟨3,.phase⟩,⟨4,.phase⟩,⟨5,.phase⟩,⟨6,.phase⟩,⟨7,.phase⟩,⟨8,.phase⟩,⟨9,.phase⟩,⟨10,.phase⟩,⟨11,.phase⟩,⟨12,.phase⟩,⟨13,.phase⟩,⟨14,.phase⟩],none⟩ (fun K' hK'=>?_)
  refine step_store 58 _ _ (by rfl) (by rfl) _ (by rfl) [.int .i64 y2.op,.int .i64 y2.dst,.int .i64 y2.src,.int .i64 y2.rc,.int .i64 y2.n,.int .i64 y2.to,.slice i3 m3 r3,.slice i4 m4 r4] (by rfl) Z33.out (one8 _ _ _ _ _ _ _ _ _ _ _ _) _ 58 V7.out rfl rfl ?_
  intro w15 hv hu
  replace R:=hid (hu.rg R.out L7.out)
  replace V7:=hid hv
  replace V6:=hid (hu.var V6.out (by first | exact neq.out | exact neq.out.symm))
  clear hv hu
  refine hK'.out _ _ (R.out.box) (fun hHeld=>?_)
  clear hHeld hK' K'
  try simp only [Act.put,sA,sB,sC]
  refine wpAnyH_done (by kernel_rfl) ?_ _
  go_wp2_with fail
  go_meet
  case rel=>exact ⟨_,_,rfl,rfl,R,V6,V7⟩
 case rest =>
  obtain ⟨p6,p7,rfl,rfl,R,V6,V7⟩:=hcut
  have B4:=R.out.bel
  have CM4:=hid (CM.out _ _ R.out.bel R.out.s3)
  have d4:=R.out.k5.2 4 _ rfl
  have t1:=R.out.s3.2 1 _ rfl
  have t2:=R.out.s3.2 2 _ rfl
  have e0:=V6.out.box.2 0 _ rfl
  have e4:=V6.out.box.2 4 _ rfl
  have f0:=V7.out.box.2 0 _ rfl
  have f4:=V7.out.box.2 4 _ rfl
  replace B4:=hid B4
  clear CM C1 C2 R0 R V6 V7
  cases q1 : (y1.op != 15)
  rotate_left
  ·have G : Hid (¬ secsP c j s):=hid (fun h=>nt q1 (F.out.1 h.1).1)
   clear F CM4
   go_wp2
   go_ret
   exact exNN G.out B4.out
  cases q2 : (y1.n != (j : Int))
  rotate_left
  ·have G : Hid (¬ secsP c j s):=hid (fun h=>nt q2 (F.out.1 h.1).2.1)
   clear F CM4
   go_wp2
   go_ret
   exact exNN G.out B4.out
  cases q3 : (y2.op != 16)
  rotate_left
  ·have G : Hid (¬ secsP c j s):=hid (fun h=>nt q3 (F.out.1 h.1).2.2.1)
   clear F CM4
   go_wp2
   go_ret
   exact exNN G.out B4.out
  cases q4 : (y2.n != (j : Int))
  rotate_left
  ·have G : Hid (¬ secsP c j s):=hid (fun h=>nt q4 (F.out.1 h.1).2.2.2.1)
   clear F CM4
   go_wp2
   go_ret
   exact exNN G.out B4.out
  by_cases q5 : s.fr < s.to
  ·have G:=hid (F.out.2 ⟨nb q1,nb q2,nb q3,nb q4,q5⟩)
   have hj' : (j : Int) < (c.secs.length : Int):=by omega
   clear F
   go_wp2_with (go_at_call 55;refine Calls.mono CM4.out ?_;rintro e w5 ⟨q,rfl,hq,hb5⟩;replace hq:=hid hq)
   go_ret
   refine exN ?_ (bover B4.out hb5)
   rw [decide_eq_false (by omega : ¬ s.to≤s.fr),Bool.false_or,hq.out]
   constructor
   ·intro h
    refine ⟨G.out,fun k o hk ho=>h k o ?_⟩
    rw [List.getElem?_take,if_pos hk];exact ho
   ·intro h k o hk
    rw [List.getElem?_take] at hk
    split at hk
    ·rename_i hkj
     exact h.2 k o hkj hk
    ·cases hk
  ·have G : Hid (¬ secsP c j s):=hid (fun h=>q5 (F.out.1 h.1).2.2.2.2)
   have q5' : s.to≤s.fr:=by omega
   clear F CM4
   go_wp2
   go_ret
   exact exNN G.out B4.out
end Go.Proofs.YtdpbapoahfggeaaDoor
