/- Contracts of holds, hasField and isSite. -/
import Derived.Test.YtdpbapoahfggeaaDoorWt
import Derived.Test.YtdpbapoahfggeaaDoorFldC
namespace Go.Proofs.YtdpbapoahfggeaaDoor
open Go.ChangeShapes Go.WideShapes Go.ChangeAt Go.RowKit
set_option linter.unusedVariables false
set_option linter.unusedSimpArgs false

theorem loc_cells {w : World} {v : Value} {l : List Loc} (h : Locs w v l) {k : Nat} {x : Loc} (hx : l[k]? = some x) : ∃ b off cap,v = .slice (some ⟨b,off,none⟩) l.length cap∧b < w.heap.size∧w.cell? ⟨b,off + k * 3,none⟩ = some (.int .i64 x.kind)∧w.cell? ⟨b,off + k * 3 + 1,none⟩ = some (.int .i64 x.rc)∧w.cell? ⟨b,off + k * 3 + 2,none⟩ = some (.bool x.once):=by
 obtain ⟨a,cap,e,hr⟩:=h.at
 obtain ⟨y,b,off,hy,ha,hb,hc,ok⟩:=hr k (List.getElem?_eq_some_iff.1 hx).1
 rw [hx] at hy;cases hy
 exact ⟨b,off,cap,by rw [e,ha],hb,hc 0 _ rfl,hc 1 _ rfl,hc 2 _ rfl⟩

set_option maxRecDepth 100000 in
set_option maxHeartbeats 1000000 in
theorem holds_any (v0 v1 v2 v3 v4 v5 sv v7 v8 : Value) (ls : List Loc) (k : Nat) (x : Loc) (kind rc : Int) (once : Bool) (w : World) (hl : Locs w sv ls) (hn : ls.length≤1000000) (hx : ls[k]? = some x) :
  Calls Tryd.prog 83 #[.agg #[v0,v1,v2,v3,v4,v5,sv,v7,v8],.int .i64 k,.agg #[.int .i64 kind,.int .i64 rc,.bool once]] w fun e w'=>e = .returned (.bool (x.kind == kind && x.rc == rc))∧Below w.heap.size w w':=by
 obtain ⟨b,off,cap,rfl,hb,c0,c1,c2⟩:=loc_cells hl hx
 have hk:=(List.getElem?_eq_some_iff.1 hx).1
 have hk' : (k : Int) < (ls.length : Int):=by omega
 obtain ⟨xk,xr,xo⟩:=x
 simp only at c0 c1 c2 ⊢
 clear hl hx
 generalize ls.length = n at *
 cases h1 : (xk == kind)
 ·go_enter Tryd.func83,Tryd.ntmps83
  go_wp2
  go_ret
  exact ⟨rfl,below3 _ _ _ _⟩
 ·go_enter Tryd.func83,Tryd.ntmps83
  go_wp2
  go_ret
  exact ⟨retB (by simp),below3 _ _ _ _⟩

theorem rl_cells {w : World} {v : Value} {l : List Rl} (h : Rls w v l) {k : Nat} {x : Rl} (hx : l[k]? = some x) : ∃ b off cap,v = .slice (some ⟨b,off,none⟩) l.length cap∧b < w.heap.size∧w.cell? ⟨b,off + k,none⟩ = some x.fv∧Locs w x.fv x.flds:=by
 obtain ⟨a,cap,e,hr⟩:=h.at
 obtain ⟨y,b,off,hy,ha,hb,hc,ok⟩:=hr k (List.getElem?_eq_some_iff.1 hx).1
 rw [hx] at hy;cases hy
 refine ⟨b,off,cap,by rw [e,ha],hb,?_,ok⟩
 have:=hc 0 _ rfl
 simpa only [Nat.add_zero,Nat.mul_one] using this

theorem thirteen {W : World} {b0 b1 : Nat} {v0 v1 v2 v3 v4 v5 v6 v7 v8 u0 u1 u2 u3 u4 u5 u6 u7 r : Value} {p : Addr} (h : BoxAt W b0 [v0,v1,v2,v3,v4,v5,v6,v7,v8]) (k : BoxAt W b1 [u0,u1,u2,u3,u4,u5,u6,u7]) (hr : W.cell? p = some r) :
  W.cell? ⟨b0,0,none⟩ = some v0∧W.cell? ⟨b0,1,none⟩ = some v1∧W.cell? ⟨b0,2,none⟩ = some v2∧W.cell? ⟨b0,3,none⟩ = some v3∧W.cell? ⟨b0,4,none⟩ = some v4∧W.cell? ⟨b0,5,none⟩ = some v5∧W.cell? ⟨b0,6,none⟩ = some v6∧W.cell? ⟨b0,7,none⟩ = some v7∧W.cell? ⟨b0,8,none⟩ = some v8 ∧
  W.cell? ⟨b1,2,none⟩ = some u2∧W.cell? ⟨b1,3,none⟩ = some u3∧W.cell? ⟨b1,4,none⟩ = some u4∧W.cell? p = some r :=
 ⟨h.2 0 _ rfl,h.2 1 _ rfl,h.2 2 _ rfl,h.2 3 _ rfl,h.2 4 _ rfl,h.2 5 _ rfl,h.2 6 _ rfl,h.2 7 _ rfl,h.2 8 _ rfl,k.2 2 _ rfl,k.2 3 _ rfl,k.2 4 _ rfl,hr⟩

set_option maxRecDepth 100000 in
set_option maxHeartbeats 1000000 in
theorem hasField_any (rv v1 v2 v3 v4 v5 sv v7 v8 : Value) (rs : List Rl) (ls : List Loc) (ks kr : Nat) (s : Loc) (r : Rl) (op dst n tt : Int) (a7 : Option Addr) (n7 p7 : Nat) (a8 : Option Addr) (n8 p8 : Nat) (w : World) (hr : Rls w rv rs) (hl : Locs w sv ls) (hnr : rs.length≤1000000) (hnl : ls.length≤1000000) (hs : ls[ks]? = some s) (hrr : rs[kr]? = some r) :
  Calls Tryd.prog 84 #[.agg #[rv,v1,v2,v3,v4,v5,sv,v7,v8],.agg #[.int .i64 op,.int .i64 dst,.int .i64 ks,.int .i64 kr,.int .i64 n,.int .i64 tt,.slice a7 n7 p7,.slice a8 n8 p8]] w
   fun e w'=>e = .returned (.bool ((s.kind == 4 && s.rc == (kr : Int)) && isIn n r.flds.length))∧Below w.heap.size w w':=by
 obtain ⟨a5,p5,e5⟩:=hl.form
 have BB:=below2 w (.cells #[rv,v1,v2,v3,v4,v5,sv,v7,v8] 110) (.cells #[.int .i64 op,.int .i64 dst,.int .i64 ks,.int .i64 kr,.int .i64 n,.int .i64 tt,.slice a7 n7 p7,.slice a8 n8 p8] 58)
 have C:=fun W h=>holds_any rv v1 v2 v3 v4 v5 sv v7 v8 ls ks s 4 kr false W (Locs.kept (Locs.kept hl BB) h) hnl hs
 have K0:=(BoxAt.new w #[rv,v1,v2,v3,v4,v5,sv,v7,v8] 110).past (.cells #[.int .i64 op,.int .i64 dst,.int .i64 ks,.int .i64 kr,.int .i64 n,.int .i64 tt,.slice a7 n7 p7,.slice a8 n8 p8] 58)
 have K1:=BoxAt.new (w.alloc (.cells #[rv,v1,v2,v3,v4,v5,sv,v7,v8] 110)) #[.int .i64 op,.int .i64 dst,.int .i64 ks,.int .i64 kr,.int .i64 n,.int .i64 tt,.slice a7 n7 p7,.slice a8 n8 p8] 58
 simp only [World.size_alloc] at K1
 obtain ⟨b,off,cap,rfl,hb,c0,hf⟩:=rl_cells hr hrr
 obtain ⟨af,pf,ef⟩:=hf.form
 rw [ef] at c0
 have hk:=(List.getElem?_eq_some_iff.1 hrr).1
 have hk' : (kr : Int) < (rs.length : Int):=by omega
 rw [e5] at C BB K0 K1 ⊢
 clear hl hr hs hrr hf ef e5
 generalize rs.length = nr at *
 generalize r.flds.length = nf at *
 replace C:=hid C
 replace BB:=hid BB
 have hz0:=hid (thirteen K0.drew K1.drew ((BB.out.drew.cell (p:=⟨b,off + kr,none⟩) hb).trans c0))
 have D:=hid (fun W=>place59_any n af nf pf W)
 replace K0:=hid K0
 replace K1:=hid K1
 have c0':=c0
 replace c0:=hid c0
 cases h1 : (s.kind == 4 && s.rc == (kr : Int))
 ·skip
  rw [h1] at C
  clear h1
  go_enter Tryd.func84,Tryd.ntmps84
  go_wp2_with fail
  refine wp_region_held_drew (S:=fun (w' : World)=>w'.cell? ⟨w.heap.size,0,none⟩ = some (.slice (some ⟨b,off,none⟩) nr cap)∧w'.cell? ⟨w.heap.size,1,none⟩ = some v1∧w'.cell? ⟨w.heap.size,2,none⟩ = some v2∧w'.cell? ⟨w.heap.size,3,none⟩ = some v3∧w'.cell? ⟨w.heap.size,4,none⟩ = some v4∧w'.cell? ⟨w.heap.size,5,none⟩ = some v5∧w'.cell? ⟨w.heap.size,6,none⟩ = some (.slice a5 ls.length p5)∧w'.cell? ⟨w.heap.size,7,none⟩ = some v7∧w'.cell? ⟨w.heap.size,8,none⟩ = some v8∧w'.cell? ⟨w.heap.size + 1,2,none⟩ = some (.int .i64 ks)∧w'.cell? ⟨w.heap.size + 1,3,none⟩ = some (.int .i64 kr)∧w'.cell? ⟨w.heap.size + 1,4,none⟩ = some (.int .i64 n)∧w'.cell? ⟨b,off + kr,none⟩ = some (.slice af nf pf)) (by kernel_rfl) (hz0.out) (fun hHeld=>?_)
  refine wT 0 ⟨some 5,.load 110 (.tmp 2),110,"looker.go:130",#[],none⟩ hHeld ?_
  try simp only [Act.put,sA,sB,sC]
  refine wT 1 ⟨some 6,.fieldAddr 58 (.tmp 3) 2,0,"looker.go:130",#[],none⟩ hHeld ?_
  try simp only [Act.put,sA,sB,sC]
  refine wT 2 ⟨some 7,.load 3 (.tmp 6),3,"looker.go:130",#[⟨1,.data⟩],none⟩ hHeld ?_
  try simp only [Act.put,sA,sB,sC]
  refine wT 3 ⟨some 8,.fieldAddr 58 (.tmp 3) 3,0,"looker.go:130",#[],none⟩ hHeld ?_
  try simp only [Act.put,sA,sB,sC]
  refine wT 4 ⟨some 9,.load 3 (.tmp 8),3,"looker.go:130",#[⟨3,.data⟩],none⟩ hHeld ?_
  try simp only [Act.put,sA,sB,sC]
  refine wT 5 ⟨some 10,.build 60 #[(0,.const (.int .i64 4)),(1,.tmp 9)],60,"looker.go:130",#[⟨4,.data⟩],none⟩ hHeld ?_
  try simp only [Act.put,sA,sB,sC]
  refine wO 6 ⟨some 11,.call ⟨.value (.func 83),#[.tmp 5,.tmp 7,.tmp 10],#[110,3,60]⟩,4,"looker.go:130",#[⟨0,.data⟩,⟨2,.data⟩,⟨5,.data⟩],none⟩ (fun K' hK'=>?_)
  go_simp
  go_at_call 83
  refine Calls.mono (C.out _ (Below.refl _ _).drew) ?_
  rintro e w1 ⟨rfl,hb1⟩
  have B1:=hid (BB.out.drew.trans (hb1.mono BB.out.drew.size))
  have hz:=hid (thirteen (K0.out.drew.kept hb1) (K1.out.drew.kept hb1) ((B1.out.cell (p:=⟨b,off + kr,none⟩) hb).trans c0.out))
  clear hb1
  refine hK'.out _ _ hz.out (fun hHeld=>?_)
  clear hK' K'
  try simp only [Act.put,sA,sB,sC]
  refine wT 7 ⟨some 12,.move (.tmp 11),4,"looker.go:130",#[⟨6,.data⟩,⟨6,.chain⟩],none⟩ hHeld ?_
  try simp only [Act.put,sA,sB,sC]
  refine wU 8 ⟨some 13,.fieldAddr 58 (.tmp 3) 4,0,"looker.go:130",#[⟨7,.guard⟩],some (7,true)⟩ hHeld ?_
  try simp only [Act.put,sA,sB,sC]
  refine wU 9 ⟨some 14,.load 3 (.tmp 13),3,"looker.go:130",#[⟨8,.data⟩,⟨7,.guard⟩],some (7,true)⟩ hHeld ?_
  try simp only [Act.put,sA,sB,sC]
  refine wU 10 ⟨some 15,.fieldAddr 110 (.tmp 2) 0,0,"looker.go:130",#[⟨7,.guard⟩],some (7,true)⟩ hHeld ?_
  try simp only [Act.put,sA,sB,sC]
  refine wU 11 ⟨some 16,.fieldAddr 41 (.tmp 15) 0,0,"looker.go:130",#[⟨10,.data⟩,⟨7,.guard⟩],some (7,true)⟩ hHeld ?_
  try simp only [Act.put,sA,sB,sC]
  refine wU 12 ⟨some 17,.load 35 (.tmp 16),35,"looker.go:130",#[⟨11,.data⟩,⟨7,.guard⟩],some (7,true)⟩ hHeld ?_
  try simp only [Act.put,sA,sB,sC]
  refine wU 13 ⟨some 18,.fieldAddr 58 (.tmp 3) 3,0,"looker.go:130",#[⟨7,.guard⟩],some (7,true)⟩ hHeld ?_
  try simp only [Act.put,sA,sB,sC]
  refine wU 14 ⟨some 19,.load 3 (.tmp 18),3,"looker.go:130",#[⟨13,.data⟩,⟨7,.guard⟩],some (7,true)⟩ hHeld ?_
  try simp only [Act.put,sA,sB,sC]
  refine wU 15 ⟨some 20,.indexAddr 35 (.tmp 17) (.tmp 19),0,"looker.go:130",#[⟨12,.data⟩,⟨14,.data⟩,⟨7,.guard⟩],some (7,true)⟩ hHeld ?_
  try simp only [Act.put,sA,sB,sC]
  refine wU 16 ⟨some 21,.load 36 (.tmp 20),36,"looker.go:130",#[⟨15,.data⟩,⟨7,.guard⟩],some (7,true)⟩ hHeld ?_
  try simp only [Act.put,sA,sB,sC]
  refine wO 17 ⟨some 22,.call ⟨.value (.func 77),#[.tmp 14,.tmp 21],#[3,36]⟩,4,"looker.go:130",#[⟨9,.data⟩,⟨16,.data⟩,⟨7,.chain⟩,⟨7,.guard⟩],some (7,true)⟩ (fun K' hK'=>?_)
  go_simp
  refine hK'.out _ _ hHeld (fun hHeld=>?_)
  clear hK' K'
  try simp only [Act.put,sA,sB,sC]
  refine wT 18 ⟨some 23,.pick (.tmp 12) (.tmp 22) (.const (.bool false)),4,"looker.go:130",#[⟨7,.data⟩,⟨17,.data⟩],none⟩ hHeld ?_
  try simp only [Act.put,sA,sB,sC]
  refine wT 19 ⟨some 4,.assign (.tmp 23),4,"looker.go:130",#[⟨18,.data⟩,⟨17,.chain⟩,⟨0,.phase⟩,⟨1,.phase⟩,⟨2,.phase⟩,⟨3,.phase⟩,⟨4,.phase⟩,⟨5,.phase⟩,⟨6,.phase⟩,⟨7,.phase⟩,⟨8,.phase⟩,⟨9,.phase⟩,⟨10,.phase⟩,⟨11,.phase⟩,⟨12,.phase⟩,⟨13,.phase⟩,⟨14,.phase⟩,⟨15,.phase⟩,⟨16,.phase⟩,⟨17,.phase⟩,⟨18,.phase⟩],none⟩ hHeld ?_
  try simp only [Act.put,sA,sB,sC]
  refine wpAnyH_done (by kernel_rfl) ?_ _
  clear hHeld
  go_wp2
  go_ret
  exact ⟨retB (by simp),B1.out⟩
 ·skip
  rw [h1] at C
  clear h1
  go_enter Tryd.func84,Tryd.ntmps84
  go_wp2_with fail
  refine wp_region_held_drew (S:=fun (w' : World)=>w'.cell? ⟨w.heap.size,0,none⟩ = some (.slice (some ⟨b,off,none⟩) nr cap)∧w'.cell? ⟨w.heap.size,1,none⟩ = some v1∧w'.cell? ⟨w.heap.size,2,none⟩ = some v2∧w'.cell? ⟨w.heap.size,3,none⟩ = some v3∧w'.cell? ⟨w.heap.size,4,none⟩ = some v4∧w'.cell? ⟨w.heap.size,5,none⟩ = some v5∧w'.cell? ⟨w.heap.size,6,none⟩ = some (.slice a5 ls.length p5)∧w'.cell? ⟨w.heap.size,7,none⟩ = some v7∧w'.cell? ⟨w.heap.size,8,none⟩ = some v8∧w'.cell? ⟨w.heap.size + 1,2,none⟩ = some (.int .i64 ks)∧w'.cell? ⟨w.heap.size + 1,3,none⟩ = some (.int .i64 kr)∧w'.cell? ⟨w.heap.size + 1,4,none⟩ = some (.int .i64 n)∧w'.cell? ⟨b,off + kr,none⟩ = some (.slice af nf pf)) (by kernel_rfl) (hz0.out) (fun hHeld=>?_)
  refine wT 0 ⟨some 5,.load 110 (.tmp 2),110,"looker.go:130",#[],none⟩ hHeld ?_
  try simp only [Act.put,sA,sB,sC]
  refine wT 1 ⟨some 6,.fieldAddr 58 (.tmp 3) 2,0,"looker.go:130",#[],none⟩ hHeld ?_
  try simp only [Act.put,sA,sB,sC]
  refine wT 2 ⟨some 7,.load 3 (.tmp 6),3,"looker.go:130",#[⟨1,.data⟩],none⟩ hHeld ?_
  try simp only [Act.put,sA,sB,sC]
  refine wT 3 ⟨some 8,.fieldAddr 58 (.tmp 3) 3,0,"looker.go:130",#[],none⟩ hHeld ?_
  try simp only [Act.put,sA,sB,sC]
  refine wT 4 ⟨some 9,.load 3 (.tmp 8),3,"looker.go:130",#[⟨3,.data⟩],none⟩ hHeld ?_
  try simp only [Act.put,sA,sB,sC]
  refine wT 5 ⟨some 10,.build 60 #[(0,.const (.int .i64 4)),(1,.tmp 9)],60,"looker.go:130",#[⟨4,.data⟩],none⟩ hHeld ?_
  try simp only [Act.put,sA,sB,sC]
  refine wO 6 ⟨some 11,.call ⟨.value (.func 83),#[.tmp 5,.tmp 7,.tmp 10],#[110,3,60]⟩,4,"looker.go:130",#[⟨0,.data⟩,⟨2,.data⟩,⟨5,.data⟩],none⟩ (fun K' hK'=>?_)
  go_simp
  go_at_call 83
  refine Calls.mono (C.out _ (Below.refl _ _).drew) ?_
  rintro e w1 ⟨rfl,hb1⟩
  have B1:=hid (BB.out.drew.trans (hb1.mono BB.out.drew.size))
  have hz:=hid (thirteen (K0.out.drew.kept hb1) (K1.out.drew.kept hb1) ((B1.out.cell (p:=⟨b,off + kr,none⟩) hb).trans c0.out))
  clear hb1
  refine hK'.out _ _ hz.out (fun hHeld=>?_)
  clear hK' K'
  try simp only [Act.put,sA,sB,sC]
  refine wT 7 ⟨some 12,.move (.tmp 11),4,"looker.go:130",#[⟨6,.data⟩,⟨6,.chain⟩],none⟩ hHeld ?_
  try simp only [Act.put,sA,sB,sC]
  refine wT 8 ⟨some 13,.fieldAddr 58 (.tmp 3) 4,0,"looker.go:130",#[⟨7,.guard⟩],some (7,true)⟩ hHeld ?_
  try simp only [Act.put,sA,sB,sC]
  refine wT 9 ⟨some 14,.load 3 (.tmp 13),3,"looker.go:130",#[⟨8,.data⟩,⟨7,.guard⟩],some (7,true)⟩ hHeld ?_
  try simp only [Act.put,sA,sB,sC]
  refine wT 10 ⟨some 15,.fieldAddr 110 (.tmp 2) 0,0,"looker.go:130",#[⟨7,.guard⟩],some (7,true)⟩ hHeld ?_
  try simp only [Act.put,sA,sB,sC]
  refine wT 11 ⟨some 16,.fieldAddr 41 (.tmp 15) 0,0,"looker.go:130",#[⟨10,.data⟩,⟨7,.guard⟩],some (7,true)⟩ hHeld ?_
  try simp only [Act.put,sA,sB,sC]
  refine wT 12 ⟨some 17,.load 35 (.tmp 16),35,"looker.go:130",#[⟨11,.data⟩,⟨7,.guard⟩],some (7,true)⟩ hHeld ?_
  try simp only [Act.put,sA,sB,sC]
  refine wT 13 ⟨some 18,.fieldAddr 58 (.tmp 3) 3,0,"looker.go:130",#[⟨7,.guard⟩],some (7,true)⟩ hHeld ?_
  try simp only [Act.put,sA,sB,sC]
  refine wT 14 ⟨some 19,.load 3 (.tmp 18),3,"looker.go:130",#[⟨13,.data⟩,⟨7,.guard⟩],some (7,true)⟩ hHeld ?_
  try simp only [Act.put,sA,sB,sC]
  refine wT 15 ⟨some 20,.indexAddr 35 (.tmp 17) (.tmp 19),0,"looker.go:130",#[⟨12,.data⟩,⟨14,.data⟩,⟨7,.guard⟩],some (7,true)⟩ hHeld ?_
  try simp only [Act.put,sA,sB,sC]
  refine wT 16 ⟨some 21,.load 36 (.tmp 20),36,"looker.go:130",#[⟨15,.data⟩,⟨7,.guard⟩],some (7,true)⟩ hHeld ?_
  try simp only [Act.put,sA,sB,sC]
  refine wO 17 ⟨some 22,.call ⟨.value (.func 77),#[.tmp 14,.tmp 21],#[3,36]⟩,4,"looker.go:130",#[⟨9,.data⟩,⟨16,.data⟩,⟨7,.chain⟩,⟨7,.guard⟩],some (7,true)⟩ (fun K' hK'=>?_)
  go_simp
  go_at_call 77
  refine Calls.mono (D.out _) ?_
  rintro e w2 ⟨rfl,rfl⟩
  refine hK'.out _ _ hHeld (fun hHeld=>?_)
  clear hK' K'
  try simp only [Act.put,sA,sB,sC]
  refine wT 18 ⟨some 23,.pick (.tmp 12) (.tmp 22) (.const (.bool false)),4,"looker.go:130",#[⟨7,.data⟩,⟨17,.data⟩],none⟩ hHeld ?_
  try simp only [Act.put,sA,sB,sC]
  refine wT 19 ⟨some 4,.assign (.tmp 23),4,"looker.go:130",#[⟨18,.data⟩,⟨17,.chain⟩,⟨0,.phase⟩,⟨1,.phase⟩,⟨2,.phase⟩,⟨3,.phase⟩,⟨4,.phase⟩,⟨5,.phase⟩,⟨6,.phase⟩,⟨7,.phase⟩,⟨8,.phase⟩,⟨9,.phase⟩,⟨10,.phase⟩,⟨11,.phase⟩,⟨12,.phase⟩,⟨13,.phase⟩,⟨14,.phase⟩,⟨15,.phase⟩,⟨16,.phase⟩,⟨17,.phase⟩,⟨18,.phase⟩],none⟩ hHeld ?_
  try simp only [Act.put,sA,sB,sC]
  refine wpAnyH_done (by kernel_rfl) ?_ _
  clear hHeld
  go_wp2
  go_ret
  exact ⟨retB (by simp),B1.out⟩

theorem ste_cells {w : World} {v : Value} {l : List Ste} (h : Stes w v l) {k : Nat} {x : Ste} (hx : l[k]? = some x) : ∃ b off cap,v = .slice (some ⟨b,off,none⟩) l.length cap∧b < w.heap.size∧w.cell? ⟨b,off + k * 3,none⟩ = some (.int .i64 x.th)∧w.cell? ⟨b,off + k * 3 + 1,none⟩ = some (.int .i64 x.pl)∧w.cell? ⟨b,off + k * 3 + 2,none⟩ = some (.int .i64 x.rc):=by
 obtain ⟨a,cap,e,hr⟩:=h.at
 obtain ⟨y,b,off,hy,ha,hb,hc,ok⟩:=hr k (List.getElem?_eq_some_iff.1 hx).1
 rw [hx] at hy;cases hy
 exact ⟨b,off,cap,by rw [e,ha],hb,hc 0 _ rfl,hc 1 _ rfl,hc 2 _ rfl⟩

set_option maxRecDepth 100000 in
set_option maxHeartbeats 1000000 in
theorem isSite_any (c : Cd) (th : Int) (sv dv mv : Value) (n pl rc : Int) (w : World) (he : Stes w c.ev c.sites) (hn : c.sites.length≤1000000) :
  Calls Tryd.prog 85 #[.agg #[c.rv,c.gv,c.tv,c.ev,c.cv,.int .i64 th,sv,dv,mv],.int .i64 n,.int .i64 pl,.int .i64 rc] w fun e w'=>e = .returned (.bool (siteB c th pl n rc))∧Below w.heap.size w w':=by
 obtain ⟨a3,p3,e3⟩:=he.form
 have C:=fun W=>place71_any n a3 c.sites.length p3 W
 cases h1 : isIn n c.sites.length
 ·have F : Hid (siteB c th pl n rc = false):=hid (by unfold siteB;rw [h1];rfl)
  rw [h1] at C
  rw [e3]
  replace C:=hid C
  clear h1 he e3
  go_enter Tryd.func85,Tryd.ntmps85
  go_wp2_with fail
  go_quiet ((go_at_call 90;exact Calls.quiet_of_same (C.out _)))
  go_wp2
  go_ret
  exact ⟨retB F.out.symm,below_drewN ((Below.refl _ _).alloc (Nat.le_refl _) _) nq⟩
 ·obtain ⟨k,rfl,hk⟩:=isIn_nat h1
  have hx : c.sites[k]? = some c.sites[k]:=by simp [hk]
  have F : Hid (siteB c th pl k rc = (c.sites[k].th == th && (c.sites[k].pl == pl && c.sites[k].rc == rc))):=hid (by
   unfold siteB;rw [h1];simp [List.getD,hk])
  obtain ⟨b,off,cap,e,hb,c0,c1,c2⟩:=ste_cells he hx
  rw [e3] at e;cases e
  rw [h1] at C
  rw [e3]
  replace C:=hid C
  have hk' : (k : Int) < (c.sites.length : Int):=by omega
  generalize c.sites[k] = x at *
  obtain ⟨x0,x1,x2⟩:=x
  simp only at c0 c1 c2
  clear h1 he e3 hx
  generalize c.sites.length = ns at *
  cases e0 : (x0 == th) <;> cases e1 : (x1 == pl) <;> cases e2 : (x2 == rc)
  all_goals
   go_enter Tryd.func85,Tryd.ntmps85
   go_wp2_with fail
   go_region_held3 (fun w'=>w'.cell? ⟨w.heap.size,3,none⟩ = some (.slice (some ⟨b,off,none⟩) ns p3)∧w'.cell? ⟨w.heap.size,5,none⟩ = some (.int .i64 th)∧w'.cell? ⟨b,off + k * 3,none⟩ = some (.int .i64 x0)∧w'.cell? ⟨b,off + k * 3 + 1,none⟩ = some (.int .i64 x1)∧w'.cell? ⟨b,off + k * 3 + 2,none⟩ = some (.int .i64 x2))
    (go_keep)
    ((go_at_call 90;with_reducible refine Calls.mono (C.out _) ?_;rintro e w0 ⟨rfl,rfl⟩))
   go_wp2
   go_ret
   refine ⟨retB ?_,((Below.refl _ _).alloc (Nat.le_refl _) _).drew⟩
   rw [F.out,e0,e1,e2];rfl
end Go.Proofs.YtdpbapoahfggeaaDoor
