/- Contract of the document's instr: kinds 13, 14. -/
import Derived.Test.YtdpbapoahfggeaaDoorWt
import Derived.Test.YtdpbapoahfggeaaDoorM12
import Derived.Test.YtdpbapoahfggeaaDoorM03
import Derived.Test.YtdpbapoahfggeaaDoorM02
namespace Go.Proofs.YtdpbapoahfggeaaDoor
open Go.ChangeShapes Go.WideShapes Go.ChangeAt Go.RowKit
set_option linter.unusedVariables false
set_option linter.unusedSimpArgs false

set_option maxRecDepth 100000 in
set_option maxHeartbeats 4000000 in
theorem rin13 (c : Cd) (i k : Nat) (b : Bd) (dst src rc n tt : Int) (items index : List Itm) (iv xv : Value) (w : World) (hc : c.okW w) (hs : SmallP c) (ht : c.threads[i]? = some b) (hx : b.code[k]? = some ⟨13,dst,src,rc,n,tt,items,iv,index,xv⟩)
  (hl : ∀ (j : Nat) (l : Loc),b.slots[j]? = some l→locOk c.recs.length l = true) :
  Calls Tryd.prog 21 #[.agg #[c.rv,c.gv,c.tv,c.ev,c.cv],.int .i64 i,.int .i64 k] w fun e w'=>e = .returned (.bool (insOk c i b k ⟨13,dst,src,rc,n,tt,items,iv,index,xv⟩))∧Below w.heap.size w w':=by
 obtain ⟨a0,p0,a1,p1,bt,ot,p2,a3,p3,a4,p4,a5,p5,bi,oi,p6,a7,p7,a8,p8,e0,e1,e2,e3,e4,rfl,rfl,P⟩:=pre_any hc hs ht hx ⟨#[116]⟩ false false false false true false false (by decide) (by decide) (by decide) (by decide) (by decide) (by decide) (by decide) (by decide) (by first | kernel_rfl | rfl | (simp [ByteArray.toList,ByteArray.toList.loop];done))
 rw [e0,e1,e2,e3,e4]
 obtain ⟨C100,C115,C114,C110,C116,C105,C120,D100,D115,D114,D105,D120,hq,DI,BB,KC0,KB0,KX0,hsec,hsl,hgl,hre,hst,F,t0,t1,t2,d0,d1,d2,d3,d4,d5,d6,d7,ii,kk,hbt,hbi,q1,q3,q5,qs,qc⟩:=P
 generalize insOk c i b k ⟨13,dst,src,rc,n,tt,items,.slice a7 items.length p7,index,.slice a8 index.length p8⟩ = rr at *
 have HH:=hid (fun W=>Has13 W)
 clear e0 e1 e2 e3 e4
 replace hl:=hid hl
 replace hc:=hid hc
 replace hs:=hid hs
 replace ht:=hid ht
 replace hx:=hid hx
 go_enter Tryd.func21,Tryd.ntmps21
 go_upto_region 4 with (go_at_call 29;refine Calls.mono (HH.out _) ?_;rintro e w1 ⟨rfl,hb⟩;have B1:=hid (bover BB.out hb);have KC:=hid (KC0.out.kept hb);have KB:=hid (KB0.out.kept hb);have KX:=hid (KX0.out.kept hb);clear KC0 KB0 KX0 BB hb)
 obtain ⟨cA,hA⟩ : ∃ q,tA ⟨13,dst,src,rc,n,tt,items,.slice a7 items.length p7,index,.slice a8 index.length p8⟩ = q:=⟨_,rfl⟩
 replace hA:=hid hA
 refine region4_any hq.out C100.out C115.out C114.out C110.out C116.out C105.out C120.out KX.out hA.out ?_
 intro g
 clear t0 t1 t2 d0 d1 d2 d3 d4 d5 d6 d7 HH hq ii q1 q3 q5 qs
 have h1000 : (b.code.length : Int)≤1000:=by omega
 cases cA
 rotate_left
 ·have G : Hid (rr = false):=hid (by rw [F.out];simp [insF,hA.out])
  clear F DI KC KB KX hA hgl hre hst hl hsl hc hs ht hx hsec C100 C115 C114 C110 C116 C105 C120 D100 D115 D114 D105 D120
  go_wp2_with fail
  go_ret
  exact ⟨retB G.out.symm,B1.out⟩
 obtain ⟨b0,b1,b2⟩:=three0 KB.out
 go_upto_region 7 with fail
 clear b0 b1 b2
 obtain ⟨cB,hB⟩ : ∃ q,tB c b ⟨13,dst,src,rc,n,tt,items,.slice a7 items.length p7,index,.slice a8 index.length p8⟩ = q:=⟨_,rfl⟩
 replace hB:=hid hB
 refine region7_any C100.out C115.out C105.out C120.out C114.out D100.out D115.out D114.out (D105.out.mono B1.out) (D120.out.mono B1.out) KX.out KC.out hB.out ?_
 intro w2 hb g2
 replace B1:=hid (bover B1.out hb)
 replace KC:=hid (KC.out.kept hb)
 replace KB:=hid (KB.out.kept hb)
 replace KX:=hid (KX.out.kept hb)
 replace C100 : Hid (∀ W,Calls Tryd.prog 30 #[.string ⟨#[116]⟩,.int .u8 100] W fun e w'=>e = .returned (.bool false)∧w' = W):=C100
 replace C115 : Hid (∀ W,Calls Tryd.prog 30 #[.string ⟨#[116]⟩,.int .u8 115] W fun e w'=>e = .returned (.bool false)∧w' = W):=C115
 clear hb C105 C120 C114 D100 D115 D114 D105 D120
 cases cB
 rotate_left
 ·have G : Hid (rr = false):=hid (by rw [F.out];simp [insF,hB.out])
  clear F DI KC KB KX hgl hre hst hA hB hl hsl hc hs ht hx hsec C110 C116 C100 C115
  go_wp2_with fail
  go_ret
  exact ⟨retB G.out.symm,B1.out⟩
 replace C116 : Hid (∀ W,Calls Tryd.prog 30 #[.string ⟨#[116]⟩,.int .u8 116] W fun e w'=>e = .returned (.bool true)∧w' = W):=C116
 have NT:=hid (fun W=>in_any tt (b.code.length : Int) b.code.length rfl W)
 cases rT : isIn tt b.code.length
 ·have G : Hid (rr = false):=hid (by rw [F.out];simp [insF,tC,tgtB,hasT,rT])
  rw [rT] at NT
  clear F hA hB DI hgl hre hst hl hsl hc hs ht hx hsec C100 C115 C110
  obtain ⟨b0,b1,b2⟩:=three0 KB.out
  obtain ⟨f0,f1,f2,f3,f4,f5,f6,f7⟩:=eight KX.out
  obtain ⟨c0,c1,c2,c3,c4⟩:=five0 KC.out
  have lb : _ < w2.heap.size:=KB.out.1
  have lx : _ < w2.heap.size:=KX.out.1
  have lc : _ < w2.heap.size:=KC.out.1
  go_wp2_with fail
  go_quiet ((first | (go_at_call 30;exact Calls.quiet_of_same (C116.out _)) | (go_at_call 20;exact Calls.quiet_of_same (NT.out _))))
  go_wp2_with fail
  go_ret
  exact ⟨retB G.out.symm,quietB B1.out nq⟩
 rw [rT] at NT
 cases he : (inside c.secs i k != inside c.secs i tt)
 rotate_left
 ·have G : Hid (rr = false):=hid (by
   have he2 : ¬ inside c.secs i tt = inside c.secs i k:=by intro q;simp [q] at he
   rw [F.out];simp [insF,tC,tgtB,hasT,rT,he2])
  clear F hA hB hgl hre hst hl hsl hc hs ht hx hsec C100 C115 C110
  go_wp2_with fail
  refine wp_region_held_drew (S:=fun (w' : World)=>(w'.cell? ⟨w.heap.size,0,none⟩ = some (.slice a0 c.recs.length p0)∧w'.cell? ⟨w.heap.size,1,none⟩ = some (.slice a1 c.globs.length p1)∧w'.cell? ⟨w.heap.size,2,none⟩ = some (.slice (some ⟨bt,ot,none⟩) c.threads.length p2)∧w'.cell? ⟨w.heap.size,3,none⟩ = some (.slice a3 c.sites.length p3)∧w'.cell? ⟨w.heap.size,4,none⟩ = some (.slice a4 c.secs.length p4))∧(w'.cell? ⟨w.heap.size + 1,0,none⟩ = some (.slice a5 b.slots.length p5)∧w'.cell? ⟨w.heap.size + 1,1,none⟩ = some (.slice (some ⟨bi,oi,none⟩) b.code.length p6)∧w'.cell? ⟨w.heap.size + 1,2,none⟩ = some (.int .i64 b.most))∧(w'.cell? ⟨w.heap.size + 1 + 1,0,none⟩ = some (.int .i64 13)∧w'.cell? ⟨w.heap.size + 1 + 1,1,none⟩ = some (.int .i64 dst)∧w'.cell? ⟨w.heap.size + 1 + 1,2,none⟩ = some (.int .i64 src)∧w'.cell? ⟨w.heap.size + 1 + 1,3,none⟩ = some (.int .i64 rc)∧w'.cell? ⟨w.heap.size + 1 + 1,4,none⟩ = some (.int .i64 n)∧w'.cell? ⟨w.heap.size + 1 + 1,5,none⟩ = some (.int .i64 tt)∧w'.cell? ⟨w.heap.size + 1 + 1,6,none⟩ = some (.slice a7 items.length p7)∧w'.cell? ⟨w.heap.size + 1 + 1,7,none⟩ = some (.slice a8 index.length p8))) (by kernel_rfl) (s16 KC.out.drew KB.out.drew KX.out.drew) (fun hHeld=>?_)
  refine wT 0 ⟨some 159,.move (.tmp 9),9,"ref.go:120",#[],none⟩ hHeld ?_
  try simp only [Act.put,sA,sB,sC]
  refine wO 1 ⟨some 160,.call ⟨.value (.func 30),#[.tmp 159,.const (.int .u8 116)],#[9,5]⟩,4,"ref.go:120",#[⟨0,.data⟩],none⟩ (fun K' hK'=>?_)
  go_simp
  go_at_call 30
  refine Calls.mono (C116.out _) ?_
  rintro e w9 ⟨rfl,rfl⟩
  refine hK'.out _ _ hHeld (fun hHeld=>?_)
  clear hK' K'
  try simp only [Act.put,sA,sB,sC]
  refine wT 2 ⟨some 161,.move (.tmp 160),4,"ref.go:120",#[⟨1,.data⟩,⟨1,.chain⟩],none⟩ hHeld ?_
  try simp only [Act.put,sA,sB,sC]
  refine wT 3 ⟨some 162,.fieldAddr 58 (.tmp 8) 5,0,"ref.go:120",#[⟨2,.guard⟩],some (2,true)⟩ hHeld ?_
  try simp only [Act.put,sA,sB,sC]
  refine wT 4 ⟨some 163,.load 3 (.tmp 162),3,"ref.go:120",#[⟨3,.data⟩,⟨2,.guard⟩],some (2,true)⟩ hHeld ?_
  try simp only [Act.put,sA,sB,sC]
  refine wT 5 ⟨some 164,.fieldAddr 55 (.tmp 7) 1,0,"ref.go:120",#[⟨2,.guard⟩],some (2,true)⟩ hHeld ?_
  try simp only [Act.put,sA,sB,sC]
  refine wT 6 ⟨some 165,.load 53 (.tmp 164),53,"ref.go:120",#[⟨5,.data⟩,⟨2,.guard⟩],some (2,true)⟩ hHeld ?_
  try simp only [Act.put,sA,sB,sC]
  refine wT 7 ⟨some 166,.call ⟨.builtin .len,#[.tmp 165],#[53]⟩,3,"ref.go:120",#[⟨6,.data⟩,⟨2,.guard⟩],some (2,true)⟩ hHeld ?_
  try simp only [Act.put,sA,sB,sC]
  refine wO 8 ⟨some 167,.call ⟨.value (.func 20),#[.tmp 163,.tmp 166],#[3,3]⟩,4,"ref.go:120",#[⟨4,.data⟩,⟨7,.data⟩,⟨2,.chain⟩,⟨2,.guard⟩],some (2,true)⟩ (fun K' hK'=>?_)
  go_simp
  go_at_call 20
  refine Calls.mono (NT.out _) ?_
  rintro e w9 ⟨rfl,rfl⟩
  refine hK'.out _ _ hHeld (fun hHeld=>?_)
  clear hK' K'
  try simp only [Act.put,sA,sB,sC]
  refine wT 9 ⟨some 168,.unOp .not 4 (.tmp 167),4,"ref.go:120",#[⟨8,.data⟩,⟨2,.guard⟩],some (2,true)⟩ hHeld ?_
  try simp only [Act.put,sA,sB,sC]
  refine wT 10 ⟨some 169,.move (.tmp 168),4,"ref.go:120",#[⟨9,.data⟩,⟨8,.chain⟩,⟨2,.guard⟩],some (2,true)⟩ hHeld ?_
  try simp only [Act.put,sA,sB,sC]
  refine wT 11 ⟨some 170,.load 41 (.tmp 3),41,"ref.go:120",#[⟨10,.guard⟩],some (10,false)⟩ hHeld ?_
  try simp only [Act.put,sA,sB,sC]
  refine wT 12 ⟨some 171,.move (.tmp 1),3,"ref.go:120",#[⟨10,.guard⟩],some (10,false)⟩ hHeld ?_
  try simp only [Act.put,sA,sB,sC]
  refine wT 13 ⟨some 172,.move (.tmp 2),3,"ref.go:120",#[⟨10,.guard⟩],some (10,false)⟩ hHeld ?_
  try simp only [Act.put,sA,sB,sC]
  refine wT 15 ⟨some 174,.load 41 (.tmp 3),41,"ref.go:120",#[⟨10,.guard⟩],some (10,false)⟩ hHeld ?_
  try simp only [Act.put,sA,sB,sC]
  refine wT 16 ⟨some 175,.move (.tmp 1),3,"ref.go:120",#[⟨10,.guard⟩],some (10,false)⟩ hHeld ?_
  try simp only [Act.put,sA,sB,sC]
  refine wT 17 ⟨some 176,.fieldAddr 58 (.tmp 8) 5,0,"ref.go:120",#[⟨10,.guard⟩],some (10,false)⟩ hHeld ?_
  try simp only [Act.put,sA,sB,sC]
  refine wT 18 ⟨some 177,.load 3 (.tmp 176),3,"ref.go:120",#[⟨17,.data⟩,⟨10,.guard⟩],some (10,false)⟩ hHeld ?_
  try simp only [Act.put,sA,sB,sC]
  refine wO 14 ⟨some 173,.call ⟨.value (.func 32),#[.tmp 170,.tmp 171,.tmp 172],#[41,3,3]⟩,3,"ref.go:120",#[⟨11,.data⟩,⟨12,.data⟩,⟨13,.data⟩,⟨10,.chain⟩,⟨10,.guard⟩],some (10,false)⟩ (fun K' hK'=>?_)
  go_simp
  have B9:=hid B1.out.drew
  have KC9:=hid KC.out.drew
  have KB9:=hid KB.out.drew
  have KX9:=hid KX.out.drew
  replace B1:=B9
  replace KC:=KC9
  replace KB:=KB9
  replace KX:=KX9
  clear B9 KC9 KB9 KX9
  go_at_call 32
  refine Calls.mono (DI.out _ _ B1.out) ?_
  rintro e y1 ⟨rfl,hb⟩
  replace B1:=hid (bover B1.out hb)
  replace KC:=hid (KC.out.kept hb)
  replace KB:=hid (KB.out.kept hb)
  replace KX:=hid (KX.out.kept hb)
  clear hb
  have hz:=hid (s16 KC.out KB.out KX.out)
  refine hK'.out _ _ hz.out (fun hHeld=>?_)
  clear hK' K'
  try simp only [Act.put,sA,sB,sC]
  refine wO 19 ⟨some 178,.call ⟨.value (.func 32),#[.tmp 174,.tmp 175,.tmp 177],#[41,3,3]⟩,3,"ref.go:120",#[⟨15,.data⟩,⟨16,.data⟩,⟨18,.data⟩,⟨14,.chain⟩,⟨10,.guard⟩],some (10,false)⟩ (fun K' hK'=>?_)
  go_simp
  go_at_call 32
  refine Calls.mono (DI.out _ _ B1.out) ?_
  rintro e y2 ⟨rfl,hb⟩
  replace B1:=hid (bover B1.out hb)
  replace KC:=hid (KC.out.kept hb)
  replace KB:=hid (KB.out.kept hb)
  replace KX:=hid (KX.out.kept hb)
  clear hb
  have hz:=hid (s16 KC.out KB.out KX.out)
  refine hK'.out _ _ hz.out (fun hHeld=>?_)
  clear hK' K'
  try simp only [Act.put,sA,sB,sC]
  refine wT 20 ⟨some 179,.binOp .neq 3 (.tmp 173) (.tmp 178) 3,4,"ref.go:120",#[⟨14,.data⟩,⟨19,.data⟩,⟨10,.guard⟩],some (10,false)⟩ hHeld ?_
  try simp only [Act.put,sA,sB,sC]
  refine wT 21 ⟨some 180,.pick (.tmp 169) (.const (.bool true)) (.tmp 179),4,"ref.go:120",#[⟨10,.data⟩,⟨20,.data⟩,⟨2,.guard⟩],some (2,true)⟩ hHeld ?_
  try simp only [Act.put,sA,sB,sC]
  refine wT 22 ⟨some 181,.pick (.tmp 161) (.tmp 180) (.const (.bool false)),4,"ref.go:120",#[⟨2,.data⟩,⟨21,.data⟩],none⟩ hHeld ?_
  try simp only [Act.put,sA,sB,sC]
  refine wpAnyH_done (by kernel_rfl) ?_ _
  clear hHeld
  go_wp2_with fail
  go_ret
  exact ⟨retB G.out.symm,B1.out⟩
 have hC3 : Hid (tC c i b k ⟨13,dst,src,rc,n,tt,items,.slice a7 items.length p7,index,.slice a8 index.length p8⟩ = false):=hid (by
  have he2 : inside c.secs i tt = inside c.secs i k:=by simpa using (Eq.symm (by simpa using he))
  simp [tC,tgtB,hasT,rT,he2])
 go_wp2_with fail
 refine wp_region_held_drew (S:=fun (w' : World)=>(w'.cell? ⟨w.heap.size,0,none⟩ = some (.slice a0 c.recs.length p0)∧w'.cell? ⟨w.heap.size,1,none⟩ = some (.slice a1 c.globs.length p1)∧w'.cell? ⟨w.heap.size,2,none⟩ = some (.slice (some ⟨bt,ot,none⟩) c.threads.length p2)∧w'.cell? ⟨w.heap.size,3,none⟩ = some (.slice a3 c.sites.length p3)∧w'.cell? ⟨w.heap.size,4,none⟩ = some (.slice a4 c.secs.length p4))∧(w'.cell? ⟨w.heap.size + 1,0,none⟩ = some (.slice a5 b.slots.length p5)∧w'.cell? ⟨w.heap.size + 1,1,none⟩ = some (.slice (some ⟨bi,oi,none⟩) b.code.length p6)∧w'.cell? ⟨w.heap.size + 1,2,none⟩ = some (.int .i64 b.most))∧(w'.cell? ⟨w.heap.size + 1 + 1,0,none⟩ = some (.int .i64 13)∧w'.cell? ⟨w.heap.size + 1 + 1,1,none⟩ = some (.int .i64 dst)∧w'.cell? ⟨w.heap.size + 1 + 1,2,none⟩ = some (.int .i64 src)∧w'.cell? ⟨w.heap.size + 1 + 1,3,none⟩ = some (.int .i64 rc)∧w'.cell? ⟨w.heap.size + 1 + 1,4,none⟩ = some (.int .i64 n)∧w'.cell? ⟨w.heap.size + 1 + 1,5,none⟩ = some (.int .i64 tt)∧w'.cell? ⟨w.heap.size + 1 + 1,6,none⟩ = some (.slice a7 items.length p7)∧w'.cell? ⟨w.heap.size + 1 + 1,7,none⟩ = some (.slice a8 index.length p8))) (by kernel_rfl) (s16 KC.out.drew KB.out.drew KX.out.drew) (fun hHeld=>?_)
 refine wT 0 ⟨some 159,.move (.tmp 9),9,"ref.go:120",#[],none⟩ hHeld ?_
 try simp only [Act.put,sA,sB,sC]
 refine wO 1 ⟨some 160,.call ⟨.value (.func 30),#[.tmp 159,.const (.int .u8 116)],#[9,5]⟩,4,"ref.go:120",#[⟨0,.data⟩],none⟩ (fun K' hK'=>?_)
 go_simp
 go_at_call 30
 refine Calls.mono (C116.out _) ?_
 rintro e w9 ⟨rfl,rfl⟩
 refine hK'.out _ _ hHeld (fun hHeld=>?_)
 clear hK' K'
 try simp only [Act.put,sA,sB,sC]
 refine wT 2 ⟨some 161,.move (.tmp 160),4,"ref.go:120",#[⟨1,.data⟩,⟨1,.chain⟩],none⟩ hHeld ?_
 try simp only [Act.put,sA,sB,sC]
 refine wT 3 ⟨some 162,.fieldAddr 58 (.tmp 8) 5,0,"ref.go:120",#[⟨2,.guard⟩],some (2,true)⟩ hHeld ?_
 try simp only [Act.put,sA,sB,sC]
 refine wT 4 ⟨some 163,.load 3 (.tmp 162),3,"ref.go:120",#[⟨3,.data⟩,⟨2,.guard⟩],some (2,true)⟩ hHeld ?_
 try simp only [Act.put,sA,sB,sC]
 refine wT 5 ⟨some 164,.fieldAddr 55 (.tmp 7) 1,0,"ref.go:120",#[⟨2,.guard⟩],some (2,true)⟩ hHeld ?_
 try simp only [Act.put,sA,sB,sC]
 refine wT 6 ⟨some 165,.load 53 (.tmp 164),53,"ref.go:120",#[⟨5,.data⟩,⟨2,.guard⟩],some (2,true)⟩ hHeld ?_
 try simp only [Act.put,sA,sB,sC]
 refine wT 7 ⟨some 166,.call ⟨.builtin .len,#[.tmp 165],#[53]⟩,3,"ref.go:120",#[⟨6,.data⟩,⟨2,.guard⟩],some (2,true)⟩ hHeld ?_
 try simp only [Act.put,sA,sB,sC]
 refine wO 8 ⟨some 167,.call ⟨.value (.func 20),#[.tmp 163,.tmp 166],#[3,3]⟩,4,"ref.go:120",#[⟨4,.data⟩,⟨7,.data⟩,⟨2,.chain⟩,⟨2,.guard⟩],some (2,true)⟩ (fun K' hK'=>?_)
 go_simp
 go_at_call 20
 refine Calls.mono (NT.out _) ?_
 rintro e w9 ⟨rfl,rfl⟩
 refine hK'.out _ _ hHeld (fun hHeld=>?_)
 clear hK' K'
 try simp only [Act.put,sA,sB,sC]
 refine wT 9 ⟨some 168,.unOp .not 4 (.tmp 167),4,"ref.go:120",#[⟨8,.data⟩,⟨2,.guard⟩],some (2,true)⟩ hHeld ?_
 try simp only [Act.put,sA,sB,sC]
 refine wT 10 ⟨some 169,.move (.tmp 168),4,"ref.go:120",#[⟨9,.data⟩,⟨8,.chain⟩,⟨2,.guard⟩],some (2,true)⟩ hHeld ?_
 try simp only [Act.put,sA,sB,sC]
 refine wT 11 ⟨some 170,.load 41 (.tmp 3),41,"ref.go:120",#[⟨10,.guard⟩],some (10,false)⟩ hHeld ?_
 try simp only [Act.put,sA,sB,sC]
 refine wT 12 ⟨some 171,.move (.tmp 1),3,"ref.go:120",#[⟨10,.guard⟩],some (10,false)⟩ hHeld ?_
 try simp only [Act.put,sA,sB,sC]
 refine wT 13 ⟨some 172,.move (.tmp 2),3,"ref.go:120",#[⟨10,.guard⟩],some (10,false)⟩ hHeld ?_
 try simp only [Act.put,sA,sB,sC]
 refine wT 15 ⟨some 174,.load 41 (.tmp 3),41,"ref.go:120",#[⟨10,.guard⟩],some (10,false)⟩ hHeld ?_
 try simp only [Act.put,sA,sB,sC]
 refine wT 16 ⟨some 175,.move (.tmp 1),3,"ref.go:120",#[⟨10,.guard⟩],some (10,false)⟩ hHeld ?_
 try simp only [Act.put,sA,sB,sC]
 refine wT 17 ⟨some 176,.fieldAddr 58 (.tmp 8) 5,0,"ref.go:120",#[⟨10,.guard⟩],some (10,false)⟩ hHeld ?_
 try simp only [Act.put,sA,sB,sC]
 refine wT 18 ⟨some 177,.load 3 (.tmp 176),3,"ref.go:120",#[⟨17,.data⟩,⟨10,.guard⟩],some (10,false)⟩ hHeld ?_
 try simp only [Act.put,sA,sB,sC]
 refine wO 14 ⟨some 173,.call ⟨.value (.func 32),#[.tmp 170,.tmp 171,.tmp 172],#[41,3,3]⟩,3,"ref.go:120",#[⟨11,.data⟩,⟨12,.data⟩,⟨13,.data⟩,⟨10,.chain⟩,⟨10,.guard⟩],some (10,false)⟩ (fun K' hK'=>?_)
 go_simp
 have B9:=hid B1.out.drew
 have KC9:=hid KC.out.drew
 have KB9:=hid KB.out.drew
 have KX9:=hid KX.out.drew
 replace B1:=B9
 replace KC:=KC9
 replace KB:=KB9
 replace KX:=KX9
 clear B9 KC9 KB9 KX9
 go_at_call 32
 refine Calls.mono (DI.out _ _ B1.out) ?_
 rintro e y1 ⟨rfl,hb⟩
 replace B1:=hid (bover B1.out hb)
 replace KC:=hid (KC.out.kept hb)
 replace KB:=hid (KB.out.kept hb)
 replace KX:=hid (KX.out.kept hb)
 clear hb
 have hz:=hid (s16 KC.out KB.out KX.out)
 refine hK'.out _ _ hz.out (fun hHeld=>?_)
 clear hK' K'
 try simp only [Act.put,sA,sB,sC]
 refine wO 19 ⟨some 178,.call ⟨.value (.func 32),#[.tmp 174,.tmp 175,.tmp 177],#[41,3,3]⟩,3,"ref.go:120",#[⟨15,.data⟩,⟨16,.data⟩,⟨18,.data⟩,⟨14,.chain⟩,⟨10,.guard⟩],some (10,false)⟩ (fun K' hK'=>?_)
 go_simp
 go_at_call 32
 refine Calls.mono (DI.out _ _ B1.out) ?_
 rintro e y2 ⟨rfl,hb⟩
 replace B1:=hid (bover B1.out hb)
 replace KC:=hid (KC.out.kept hb)
 replace KB:=hid (KB.out.kept hb)
 replace KX:=hid (KX.out.kept hb)
 clear hb
 have hz:=hid (s16 KC.out KB.out KX.out)
 refine hK'.out _ _ hz.out (fun hHeld=>?_)
 clear hK' K'
 try simp only [Act.put,sA,sB,sC]
 refine wT 20 ⟨some 179,.binOp .neq 3 (.tmp 173) (.tmp 178) 3,4,"ref.go:120",#[⟨14,.data⟩,⟨19,.data⟩,⟨10,.guard⟩],some (10,false)⟩ hHeld ?_
 try simp only [Act.put,sA,sB,sC]
 refine wT 21 ⟨some 180,.pick (.tmp 169) (.const (.bool true)) (.tmp 179),4,"ref.go:120",#[⟨10,.data⟩,⟨20,.data⟩,⟨2,.guard⟩],some (2,true)⟩ hHeld ?_
 try simp only [Act.put,sA,sB,sC]
 refine wT 22 ⟨some 181,.pick (.tmp 161) (.tmp 180) (.const (.bool false)),4,"ref.go:120",#[⟨2,.data⟩,⟨21,.data⟩],none⟩ hHeld ?_
 try simp only [Act.put,sA,sB,sC]
 refine wpAnyH_done (by kernel_rfl) ?_ _
 clear hHeld
 clear DI NT C116 he rT
 have hD3 : Hid (tD c i k ⟨13,dst,src,rc,n,tt,items,.slice a7 items.length p7,index,.slice a8 index.length p8⟩ = false):=hid rfl
 obtain ⟨b0,b1,b2⟩:=three0 KB.out
 obtain ⟨f0,f1,f2,f3,f4,f5,f6,f7⟩:=eight KX.out
 obtain ⟨c0,c1,c2,c3,c4⟩:=five0 KC.out
 have lb : _ < y2.heap.size:=KB.out.1
 have lx : _ < y2.heap.size:=KX.out.1
 have lc : _ < y2.heap.size:=KC.out.1
 go_upto_region 13 with fail
 clear lb lx lc b0 b1 b2 f0 f1 f2 f3 f4 f5 f6 f7 c0 c1 c2 c3 c4
 cases z6 : ((k : Int) == (b.code.length : Int) - 1)
 rotate_left
 ·have G : Hid (rr = false):=hid (by rw [F.out];simp [insF,tE,z6])
  clear F hA hB hC3 hD3 hgl hre hst hl hsl hc hs ht hx hsec C100 C115 C110
  obtain ⟨b0,b1,b2⟩:=three0 KB.out
  obtain ⟨f0,f1,f2,f3,f4,f5,f6,f7⟩:=eight KX.out
  obtain ⟨c0,c1,c2,c3,c4⟩:=five0 KC.out
  have lb : _ < y2.heap.size:=KB.out.1
  have lx : _ < y2.heap.size:=KX.out.1
  have lc : _ < y2.heap.size:=KC.out.1
  go_wp2_with fail
  go_ret
  exact ⟨retB G.out.symm,B1.out⟩
 have hE3 : Hid (tE b k ⟨13,dst,src,rc,n,tt,items,.slice a7 items.length p7,index,.slice a8 index.length p8⟩ = false):=hid (by simp [tE,z6])
 have F2 : Hid (rr = agreesB c i b k ⟨13,dst,src,rc,n,tt,items,.slice a7 items.length p7,index,.slice a8 index.length p8⟩):=hid (by rw [F.out];simp [insF,hA.out,hB.out,hC3.out,hD3.out,hE3.out,isOp])
 clear F hA hB hC3 hD3 hE3
 obtain ⟨b0,b1,b2⟩:=three0 KB.out
 obtain ⟨f0,f1,f2,f3,f4,f5,f6,f7⟩:=eight KX.out
 obtain ⟨c0,c1,c2,c3,c4⟩:=five0 KC.out
 have lb : _ < y2.heap.size:=KB.out.1
 have lx : _ < y2.heap.size:=KX.out.1
 have lc : _ < y2.heap.size:=KC.out.1
 clear hgl hre hst hl hsl hc hs ht hx hsec KC KB KX
 go_wp2_with (first | (go_at_call 30;with_reducible refine Calls.mono (C100.out _) ?_;rintro e w9 ⟨rfl,rfl⟩) | (go_at_call 30;with_reducible refine Calls.mono (C115.out _) ?_;rintro e w9 ⟨rfl,rfl⟩))
 go_ret
 exact ⟨retB (F2.out.trans (by rfl)).symm,bel2 B1.out _ _⟩

set_option maxRecDepth 100000 in
set_option maxHeartbeats 4000000 in
theorem rin14 (c : Cd) (i k : Nat) (b : Bd) (dst src rc n tt : Int) (items index : List Itm) (iv xv : Value) (w : World) (hc : c.okW w) (hs : SmallP c) (ht : c.threads[i]? = some b) (hx : b.code[k]? = some ⟨14,dst,src,rc,n,tt,items,iv,index,xv⟩)
  (hl : ∀ (j : Nat) (l : Loc),b.slots[j]? = some l→locOk c.recs.length l = true) :
  Calls Tryd.prog 21 #[.agg #[c.rv,c.gv,c.tv,c.ev,c.cv],.int .i64 i,.int .i64 k] w fun e w'=>e = .returned (.bool (insOk c i b k ⟨14,dst,src,rc,n,tt,items,iv,index,xv⟩))∧Below w.heap.size w w':=by
 obtain ⟨a0,p0,a1,p1,bt,ot,p2,a3,p3,a4,p4,a5,p5,bi,oi,p6,a7,p7,a8,p8,e0,e1,e2,e3,e4,rfl,rfl,P⟩:=pre_any hc hs ht hx ⟨#[116,105]⟩ false false false false true true false (by decide) (by decide) (by decide) (by decide) (by decide) (by decide) (by decide) (by decide) (by first | kernel_rfl | rfl | (simp [ByteArray.toList,ByteArray.toList.loop];done))
 rw [e0,e1,e2,e3,e4]
 obtain ⟨C100,C115,C114,C110,C116,C105,C120,D100,D115,D114,D105,D120,hq,DI,BB,KC0,KB0,KX0,hsec,hsl,hgl,hre,hst,F,t0,t1,t2,d0,d1,d2,d3,d4,d5,d6,d7,ii,kk,hbt,hbi,q1,q3,q5,qs,qc⟩:=P
 generalize insOk c i b k ⟨14,dst,src,rc,n,tt,items,.slice a7 items.length p7,index,.slice a8 index.length p8⟩ = rr at *
 have HH:=hid (fun W=>Has14 W)
 clear e0 e1 e2 e3 e4
 replace hl:=hid hl
 replace hc:=hid hc
 replace hs:=hid hs
 replace ht:=hid ht
 replace hx:=hid hx
 go_enter Tryd.func21,Tryd.ntmps21
 go_upto_region 4 with (go_at_call 29;refine Calls.mono (HH.out _) ?_;rintro e w1 ⟨rfl,hb⟩;have B1:=hid (bover BB.out hb);have KC:=hid (KC0.out.kept hb);have KB:=hid (KB0.out.kept hb);have KX:=hid (KX0.out.kept hb);clear KC0 KB0 KX0 BB hb)
 obtain ⟨cA,hA⟩ : ∃ q,tA ⟨14,dst,src,rc,n,tt,items,.slice a7 items.length p7,index,.slice a8 index.length p8⟩ = q:=⟨_,rfl⟩
 replace hA:=hid hA
 refine region4_any hq.out C100.out C115.out C114.out C110.out C116.out C105.out C120.out KX.out hA.out ?_
 intro g
 clear t0 t1 t2 d0 d1 d2 d3 d4 d5 d6 d7 HH hq ii q1 q3 q5 qs
 have h1000 : (b.code.length : Int)≤1000:=by omega
 cases cA
 rotate_left
 ·have G : Hid (rr = false):=hid (by rw [F.out];simp [insF,hA.out])
  clear F DI KC KB KX hA hgl hre hst hl hsl hc hs ht hx hsec C100 C115 C114 C110 C116 C105 C120 D100 D115 D114 D105 D120
  go_wp2_with fail
  go_ret
  exact ⟨retB G.out.symm,B1.out⟩
 obtain ⟨b0,b1,b2⟩:=three0 KB.out
 go_upto_region 7 with fail
 clear b0 b1 b2
 obtain ⟨cB,hB⟩ : ∃ q,tB c b ⟨14,dst,src,rc,n,tt,items,.slice a7 items.length p7,index,.slice a8 index.length p8⟩ = q:=⟨_,rfl⟩
 replace hB:=hid hB
 refine region7_any C100.out C115.out C105.out C120.out C114.out D100.out D115.out D114.out (D105.out.mono B1.out) (D120.out.mono B1.out) KX.out KC.out hB.out ?_
 intro w2 hb g2
 replace B1:=hid (bover B1.out hb)
 replace KC:=hid (KC.out.kept hb)
 replace KB:=hid (KB.out.kept hb)
 replace KX:=hid (KX.out.kept hb)
 replace C100 : Hid (∀ W,Calls Tryd.prog 30 #[.string ⟨#[116,105]⟩,.int .u8 100] W fun e w'=>e = .returned (.bool false)∧w' = W):=C100
 replace C115 : Hid (∀ W,Calls Tryd.prog 30 #[.string ⟨#[116,105]⟩,.int .u8 115] W fun e w'=>e = .returned (.bool false)∧w' = W):=C115
 clear hb C105 C120 C114 D100 D115 D114 D105 D120
 cases cB
 rotate_left
 ·have G : Hid (rr = false):=hid (by rw [F.out];simp [insF,hB.out])
  clear F DI KC KB KX hgl hre hst hA hB hl hsl hc hs ht hx hsec C110 C116 C100 C115
  go_wp2_with fail
  go_ret
  exact ⟨retB G.out.symm,B1.out⟩
 replace C116 : Hid (∀ W,Calls Tryd.prog 30 #[.string ⟨#[116,105]⟩,.int .u8 116] W fun e w'=>e = .returned (.bool true)∧w' = W):=C116
 have NT:=hid (fun W=>in_any tt (b.code.length : Int) b.code.length rfl W)
 cases rT : isIn tt b.code.length
 ·have G : Hid (rr = false):=hid (by rw [F.out];simp [insF,tC,tgtB,hasT,rT])
  rw [rT] at NT
  clear F hA hB DI hgl hre hst hl hsl hc hs ht hx hsec C100 C115 C110
  obtain ⟨b0,b1,b2⟩:=three0 KB.out
  obtain ⟨f0,f1,f2,f3,f4,f5,f6,f7⟩:=eight KX.out
  obtain ⟨c0,c1,c2,c3,c4⟩:=five0 KC.out
  have lb : _ < w2.heap.size:=KB.out.1
  have lx : _ < w2.heap.size:=KX.out.1
  have lc : _ < w2.heap.size:=KC.out.1
  go_wp2_with fail
  go_quiet ((first | (go_at_call 30;exact Calls.quiet_of_same (C116.out _)) | (go_at_call 20;exact Calls.quiet_of_same (NT.out _))))
  go_wp2_with fail
  go_ret
  exact ⟨retB G.out.symm,quietB B1.out nq⟩
 rw [rT] at NT
 cases he : (inside c.secs i k != inside c.secs i tt)
 rotate_left
 ·have G : Hid (rr = false):=hid (by
   have he2 : ¬ inside c.secs i tt = inside c.secs i k:=by intro q;simp [q] at he
   rw [F.out];simp [insF,tC,tgtB,hasT,rT,he2])
  clear F hA hB hgl hre hst hl hsl hc hs ht hx hsec C100 C115 C110
  go_wp2_with fail
  refine wp_region_held_drew (S:=fun (w' : World)=>(w'.cell? ⟨w.heap.size,0,none⟩ = some (.slice a0 c.recs.length p0)∧w'.cell? ⟨w.heap.size,1,none⟩ = some (.slice a1 c.globs.length p1)∧w'.cell? ⟨w.heap.size,2,none⟩ = some (.slice (some ⟨bt,ot,none⟩) c.threads.length p2)∧w'.cell? ⟨w.heap.size,3,none⟩ = some (.slice a3 c.sites.length p3)∧w'.cell? ⟨w.heap.size,4,none⟩ = some (.slice a4 c.secs.length p4))∧(w'.cell? ⟨w.heap.size + 1,0,none⟩ = some (.slice a5 b.slots.length p5)∧w'.cell? ⟨w.heap.size + 1,1,none⟩ = some (.slice (some ⟨bi,oi,none⟩) b.code.length p6)∧w'.cell? ⟨w.heap.size + 1,2,none⟩ = some (.int .i64 b.most))∧(w'.cell? ⟨w.heap.size + 1 + 1,0,none⟩ = some (.int .i64 14)∧w'.cell? ⟨w.heap.size + 1 + 1,1,none⟩ = some (.int .i64 dst)∧w'.cell? ⟨w.heap.size + 1 + 1,2,none⟩ = some (.int .i64 src)∧w'.cell? ⟨w.heap.size + 1 + 1,3,none⟩ = some (.int .i64 rc)∧w'.cell? ⟨w.heap.size + 1 + 1,4,none⟩ = some (.int .i64 n)∧w'.cell? ⟨w.heap.size + 1 + 1,5,none⟩ = some (.int .i64 tt)∧w'.cell? ⟨w.heap.size + 1 + 1,6,none⟩ = some (.slice a7 items.length p7)∧w'.cell? ⟨w.heap.size + 1 + 1,7,none⟩ = some (.slice a8 index.length p8))) (by kernel_rfl) (s16 KC.out.drew KB.out.drew KX.out.drew) (fun hHeld=>?_)
  refine wT 0 ⟨some 159,.move (.tmp 9),9,"ref.go:120",#[],none⟩ hHeld ?_
  try simp only [Act.put,sA,sB,sC]
  refine wO 1 ⟨some 160,.call ⟨.value (.func 30),#[.tmp 159,.const (.int .u8 116)],#[9,5]⟩,4,"ref.go:120",#[⟨0,.data⟩],none⟩ (fun K' hK'=>?_)
  go_simp
  go_at_call 30
  refine Calls.mono (C116.out _) ?_
  rintro e w9 ⟨rfl,rfl⟩
  refine hK'.out _ _ hHeld (fun hHeld=>?_)
  clear hK' K'
  try simp only [Act.put,sA,sB,sC]
  refine wT 2 ⟨some 161,.move (.tmp 160),4,"ref.go:120",#[⟨1,.data⟩,⟨1,.chain⟩],none⟩ hHeld ?_
  try simp only [Act.put,sA,sB,sC]
  refine wT 3 ⟨some 162,.fieldAddr 58 (.tmp 8) 5,0,"ref.go:120",#[⟨2,.guard⟩],some (2,true)⟩ hHeld ?_
  try simp only [Act.put,sA,sB,sC]
  refine wT 4 ⟨some 163,.load 3 (.tmp 162),3,"ref.go:120",#[⟨3,.data⟩,⟨2,.guard⟩],some (2,true)⟩ hHeld ?_
  try simp only [Act.put,sA,sB,sC]
  refine wT 5 ⟨some 164,.fieldAddr 55 (.tmp 7) 1,0,"ref.go:120",#[⟨2,.guard⟩],some (2,true)⟩ hHeld ?_
  try simp only [Act.put,sA,sB,sC]
  refine wT 6 ⟨some 165,.load 53 (.tmp 164),53,"ref.go:120",#[⟨5,.data⟩,⟨2,.guard⟩],some (2,true)⟩ hHeld ?_
  try simp only [Act.put,sA,sB,sC]
  refine wT 7 ⟨some 166,.call ⟨.builtin .len,#[.tmp 165],#[53]⟩,3,"ref.go:120",#[⟨6,.data⟩,⟨2,.guard⟩],some (2,true)⟩ hHeld ?_
  try simp only [Act.put,sA,sB,sC]
  refine wO 8 ⟨some 167,.call ⟨.value (.func 20),#[.tmp 163,.tmp 166],#[3,3]⟩,4,"ref.go:120",#[⟨4,.data⟩,⟨7,.data⟩,⟨2,.chain⟩,⟨2,.guard⟩],some (2,true)⟩ (fun K' hK'=>?_)
  go_simp
  go_at_call 20
  refine Calls.mono (NT.out _) ?_
  rintro e w9 ⟨rfl,rfl⟩
  refine hK'.out _ _ hHeld (fun hHeld=>?_)
  clear hK' K'
  try simp only [Act.put,sA,sB,sC]
  refine wT 9 ⟨some 168,.unOp .not 4 (.tmp 167),4,"ref.go:120",#[⟨8,.data⟩,⟨2,.guard⟩],some (2,true)⟩ hHeld ?_
  try simp only [Act.put,sA,sB,sC]
  refine wT 10 ⟨some 169,.move (.tmp 168),4,"ref.go:120",#[⟨9,.data⟩,⟨8,.chain⟩,⟨2,.guard⟩],some (2,true)⟩ hHeld ?_
  try simp only [Act.put,sA,sB,sC]
  refine wT 11 ⟨some 170,.load 41 (.tmp 3),41,"ref.go:120",#[⟨10,.guard⟩],some (10,false)⟩ hHeld ?_
  try simp only [Act.put,sA,sB,sC]
  refine wT 12 ⟨some 171,.move (.tmp 1),3,"ref.go:120",#[⟨10,.guard⟩],some (10,false)⟩ hHeld ?_
  try simp only [Act.put,sA,sB,sC]
  refine wT 13 ⟨some 172,.move (.tmp 2),3,"ref.go:120",#[⟨10,.guard⟩],some (10,false)⟩ hHeld ?_
  try simp only [Act.put,sA,sB,sC]
  refine wT 15 ⟨some 174,.load 41 (.tmp 3),41,"ref.go:120",#[⟨10,.guard⟩],some (10,false)⟩ hHeld ?_
  try simp only [Act.put,sA,sB,sC]
  refine wT 16 ⟨some 175,.move (.tmp 1),3,"ref.go:120",#[⟨10,.guard⟩],some (10,false)⟩ hHeld ?_
  try simp only [Act.put,sA,sB,sC]
  refine wT 17 ⟨some 176,.fieldAddr 58 (.tmp 8) 5,0,"ref.go:120",#[⟨10,.guard⟩],some (10,false)⟩ hHeld ?_
  try simp only [Act.put,sA,sB,sC]
  refine wT 18 ⟨some 177,.load 3 (.tmp 176),3,"ref.go:120",#[⟨17,.data⟩,⟨10,.guard⟩],some (10,false)⟩ hHeld ?_
  try simp only [Act.put,sA,sB,sC]
  refine wO 14 ⟨some 173,.call ⟨.value (.func 32),#[.tmp 170,.tmp 171,.tmp 172],#[41,3,3]⟩,3,"ref.go:120",#[⟨11,.data⟩,⟨12,.data⟩,⟨13,.data⟩,⟨10,.chain⟩,⟨10,.guard⟩],some (10,false)⟩ (fun K' hK'=>?_)
  go_simp
  have B9:=hid B1.out.drew
  have KC9:=hid KC.out.drew
  have KB9:=hid KB.out.drew
  have KX9:=hid KX.out.drew
  replace B1:=B9
  replace KC:=KC9
  replace KB:=KB9
  replace KX:=KX9
  clear B9 KC9 KB9 KX9
  go_at_call 32
  refine Calls.mono (DI.out _ _ B1.out) ?_
  rintro e y1 ⟨rfl,hb⟩
  replace B1:=hid (bover B1.out hb)
  replace KC:=hid (KC.out.kept hb)
  replace KB:=hid (KB.out.kept hb)
  replace KX:=hid (KX.out.kept hb)
  clear hb
  have hz:=hid (s16 KC.out KB.out KX.out)
  refine hK'.out _ _ hz.out (fun hHeld=>?_)
  clear hK' K'
  try simp only [Act.put,sA,sB,sC]
  refine wO 19 ⟨some 178,.call ⟨.value (.func 32),#[.tmp 174,.tmp 175,.tmp 177],#[41,3,3]⟩,3,"ref.go:120",#[⟨15,.data⟩,⟨16,.data⟩,⟨18,.data⟩,⟨14,.chain⟩,⟨10,.guard⟩],some (10,false)⟩ (fun K' hK'=>?_)
  go_simp
  go_at_call 32
  refine Calls.mono (DI.out _ _ B1.out) ?_
  rintro e y2 ⟨rfl,hb⟩
  replace B1:=hid (bover B1.out hb)
  replace KC:=hid (KC.out.kept hb)
  replace KB:=hid (KB.out.kept hb)
  replace KX:=hid (KX.out.kept hb)
  clear hb
  have hz:=hid (s16 KC.out KB.out KX.out)
  refine hK'.out _ _ hz.out (fun hHeld=>?_)
  clear hK' K'
  try simp only [Act.put,sA,sB,sC]
  refine wT 20 ⟨some 179,.binOp .neq 3 (.tmp 173) (.tmp 178) 3,4,"ref.go:120",#[⟨14,.data⟩,⟨19,.data⟩,⟨10,.guard⟩],some (10,false)⟩ hHeld ?_
  try simp only [Act.put,sA,sB,sC]
  refine wT 21 ⟨some 180,.pick (.tmp 169) (.const (.bool true)) (.tmp 179),4,"ref.go:120",#[⟨10,.data⟩,⟨20,.data⟩,⟨2,.guard⟩],some (2,true)⟩ hHeld ?_
  try simp only [Act.put,sA,sB,sC]
  refine wT 22 ⟨some 181,.pick (.tmp 161) (.tmp 180) (.const (.bool false)),4,"ref.go:120",#[⟨2,.data⟩,⟨21,.data⟩],none⟩ hHeld ?_
  try simp only [Act.put,sA,sB,sC]
  refine wpAnyH_done (by kernel_rfl) ?_ _
  clear hHeld
  go_wp2_with fail
  go_ret
  exact ⟨retB G.out.symm,B1.out⟩
 have hC3 : Hid (tC c i b k ⟨14,dst,src,rc,n,tt,items,.slice a7 items.length p7,index,.slice a8 index.length p8⟩ = false):=hid (by
  have he2 : inside c.secs i tt = inside c.secs i k:=by simpa using (Eq.symm (by simpa using he))
  simp [tC,tgtB,hasT,rT,he2])
 go_wp2_with fail
 refine wp_region_held_drew (S:=fun (w' : World)=>(w'.cell? ⟨w.heap.size,0,none⟩ = some (.slice a0 c.recs.length p0)∧w'.cell? ⟨w.heap.size,1,none⟩ = some (.slice a1 c.globs.length p1)∧w'.cell? ⟨w.heap.size,2,none⟩ = some (.slice (some ⟨bt,ot,none⟩) c.threads.length p2)∧w'.cell? ⟨w.heap.size,3,none⟩ = some (.slice a3 c.sites.length p3)∧w'.cell? ⟨w.heap.size,4,none⟩ = some (.slice a4 c.secs.length p4))∧(w'.cell? ⟨w.heap.size + 1,0,none⟩ = some (.slice a5 b.slots.length p5)∧w'.cell? ⟨w.heap.size + 1,1,none⟩ = some (.slice (some ⟨bi,oi,none⟩) b.code.length p6)∧w'.cell? ⟨w.heap.size + 1,2,none⟩ = some (.int .i64 b.most))∧(w'.cell? ⟨w.heap.size + 1 + 1,0,none⟩ = some (.int .i64 14)∧w'.cell? ⟨w.heap.size + 1 + 1,1,none⟩ = some (.int .i64 dst)∧w'.cell? ⟨w.heap.size + 1 + 1,2,none⟩ = some (.int .i64 src)∧w'.cell? ⟨w.heap.size + 1 + 1,3,none⟩ = some (.int .i64 rc)∧w'.cell? ⟨w.heap.size + 1 + 1,4,none⟩ = some (.int .i64 n)∧w'.cell? ⟨w.heap.size + 1 + 1,5,none⟩ = some (.int .i64 tt)∧w'.cell? ⟨w.heap.size + 1 + 1,6,none⟩ = some (.slice a7 items.length p7)∧w'.cell? ⟨w.heap.size + 1 + 1,7,none⟩ = some (.slice a8 index.length p8))) (by kernel_rfl) (s16 KC.out.drew KB.out.drew KX.out.drew) (fun hHeld=>?_)
 refine wT 0 ⟨some 159,.move (.tmp 9),9,"ref.go:120",#[],none⟩ hHeld ?_
 try simp only [Act.put,sA,sB,sC]
 refine wO 1 ⟨some 160,.call ⟨.value (.func 30),#[.tmp 159,.const (.int .u8 116)],#[9,5]⟩,4,"ref.go:120",#[⟨0,.data⟩],none⟩ (fun K' hK'=>?_)
 go_simp
 go_at_call 30
 refine Calls.mono (C116.out _) ?_
 rintro e w9 ⟨rfl,rfl⟩
 refine hK'.out _ _ hHeld (fun hHeld=>?_)
 clear hK' K'
 try simp only [Act.put,sA,sB,sC]
 refine wT 2 ⟨some 161,.move (.tmp 160),4,"ref.go:120",#[⟨1,.data⟩,⟨1,.chain⟩],none⟩ hHeld ?_
 try simp only [Act.put,sA,sB,sC]
 refine wT 3 ⟨some 162,.fieldAddr 58 (.tmp 8) 5,0,"ref.go:120",#[⟨2,.guard⟩],some (2,true)⟩ hHeld ?_
 try simp only [Act.put,sA,sB,sC]
 refine wT 4 ⟨some 163,.load 3 (.tmp 162),3,"ref.go:120",#[⟨3,.data⟩,⟨2,.guard⟩],some (2,true)⟩ hHeld ?_
 try simp only [Act.put,sA,sB,sC]
 refine wT 5 ⟨some 164,.fieldAddr 55 (.tmp 7) 1,0,"ref.go:120",#[⟨2,.guard⟩],some (2,true)⟩ hHeld ?_
 try simp only [Act.put,sA,sB,sC]
 refine wT 6 ⟨some 165,.load 53 (.tmp 164),53,"ref.go:120",#[⟨5,.data⟩,⟨2,.guard⟩],some (2,true)⟩ hHeld ?_
 try simp only [Act.put,sA,sB,sC]
 refine wT 7 ⟨some 166,.call ⟨.builtin .len,#[.tmp 165],#[53]⟩,3,"ref.go:120",#[⟨6,.data⟩,⟨2,.guard⟩],some (2,true)⟩ hHeld ?_
 try simp only [Act.put,sA,sB,sC]
 refine wO 8 ⟨some 167,.call ⟨.value (.func 20),#[.tmp 163,.tmp 166],#[3,3]⟩,4,"ref.go:120",#[⟨4,.data⟩,⟨7,.data⟩,⟨2,.chain⟩,⟨2,.guard⟩],some (2,true)⟩ (fun K' hK'=>?_)
 go_simp
 go_at_call 20
 refine Calls.mono (NT.out _) ?_
 rintro e w9 ⟨rfl,rfl⟩
 refine hK'.out _ _ hHeld (fun hHeld=>?_)
 clear hK' K'
 try simp only [Act.put,sA,sB,sC]
 refine wT 9 ⟨some 168,.unOp .not 4 (.tmp 167),4,"ref.go:120",#[⟨8,.data⟩,⟨2,.guard⟩],some (2,true)⟩ hHeld ?_
 try simp only [Act.put,sA,sB,sC]
 refine wT 10 ⟨some 169,.move (.tmp 168),4,"ref.go:120",#[⟨9,.data⟩,⟨8,.chain⟩,⟨2,.guard⟩],some (2,true)⟩ hHeld ?_
 try simp only [Act.put,sA,sB,sC]
 refine wT 11 ⟨some 170,.load 41 (.tmp 3),41,"ref.go:120",#[⟨10,.guard⟩],some (10,false)⟩ hHeld ?_
 try simp only [Act.put,sA,sB,sC]
 refine wT 12 ⟨some 171,.move (.tmp 1),3,"ref.go:120",#[⟨10,.guard⟩],some (10,false)⟩ hHeld ?_
 try simp only [Act.put,sA,sB,sC]
 refine wT 13 ⟨some 172,.move (.tmp 2),3,"ref.go:120",#[⟨10,.guard⟩],some (10,false)⟩ hHeld ?_
 try simp only [Act.put,sA,sB,sC]
 refine wT 15 ⟨some 174,.load 41 (.tmp 3),41,"ref.go:120",#[⟨10,.guard⟩],some (10,false)⟩ hHeld ?_
 try simp only [Act.put,sA,sB,sC]
 refine wT 16 ⟨some 175,.move (.tmp 1),3,"ref.go:120",#[⟨10,.guard⟩],some (10,false)⟩ hHeld ?_
 try simp only [Act.put,sA,sB,sC]
 refine wT 17 ⟨some 176,.fieldAddr 58 (.tmp 8) 5,0,"ref.go:120",#[⟨10,.guard⟩],some (10,false)⟩ hHeld ?_
 try simp only [Act.put,sA,sB,sC]
 refine wT 18 ⟨some 177,.load 3 (.tmp 176),3,"ref.go:120",#[⟨17,.data⟩,⟨10,.guard⟩],some (10,false)⟩ hHeld ?_
 try simp only [Act.put,sA,sB,sC]
 refine wO 14 ⟨some 173,.call ⟨.value (.func 32),#[.tmp 170,.tmp 171,.tmp 172],#[41,3,3]⟩,3,"ref.go:120",#[⟨11,.data⟩,⟨12,.data⟩,⟨13,.data⟩,⟨10,.chain⟩,⟨10,.guard⟩],some (10,false)⟩ (fun K' hK'=>?_)
 go_simp
 have B9:=hid B1.out.drew
 have KC9:=hid KC.out.drew
 have KB9:=hid KB.out.drew
 have KX9:=hid KX.out.drew
 replace B1:=B9
 replace KC:=KC9
 replace KB:=KB9
 replace KX:=KX9
 clear B9 KC9 KB9 KX9
 go_at_call 32
 refine Calls.mono (DI.out _ _ B1.out) ?_
 rintro e y1 ⟨rfl,hb⟩
 replace B1:=hid (bover B1.out hb)
 replace KC:=hid (KC.out.kept hb)
 replace KB:=hid (KB.out.kept hb)
 replace KX:=hid (KX.out.kept hb)
 clear hb
 have hz:=hid (s16 KC.out KB.out KX.out)
 refine hK'.out _ _ hz.out (fun hHeld=>?_)
 clear hK' K'
 try simp only [Act.put,sA,sB,sC]
 refine wO 19 ⟨some 178,.call ⟨.value (.func 32),#[.tmp 174,.tmp 175,.tmp 177],#[41,3,3]⟩,3,"ref.go:120",#[⟨15,.data⟩,⟨16,.data⟩,⟨18,.data⟩,⟨14,.chain⟩,⟨10,.guard⟩],some (10,false)⟩ (fun K' hK'=>?_)
 go_simp
 go_at_call 32
 refine Calls.mono (DI.out _ _ B1.out) ?_
 rintro e y2 ⟨rfl,hb⟩
 replace B1:=hid (bover B1.out hb)
 replace KC:=hid (KC.out.kept hb)
 replace KB:=hid (KB.out.kept hb)
 replace KX:=hid (KX.out.kept hb)
 clear hb
 have hz:=hid (s16 KC.out KB.out KX.out)
 refine hK'.out _ _ hz.out (fun hHeld=>?_)
 clear hK' K'
 try simp only [Act.put,sA,sB,sC]
 refine wT 20 ⟨some 179,.binOp .neq 3 (.tmp 173) (.tmp 178) 3,4,"ref.go:120",#[⟨14,.data⟩,⟨19,.data⟩,⟨10,.guard⟩],some (10,false)⟩ hHeld ?_
 try simp only [Act.put,sA,sB,sC]
 refine wT 21 ⟨some 180,.pick (.tmp 169) (.const (.bool true)) (.tmp 179),4,"ref.go:120",#[⟨10,.data⟩,⟨20,.data⟩,⟨2,.guard⟩],some (2,true)⟩ hHeld ?_
 try simp only [Act.put,sA,sB,sC]
 refine wT 22 ⟨some 181,.pick (.tmp 161) (.tmp 180) (.const (.bool false)),4,"ref.go:120",#[⟨2,.data⟩,⟨21,.data⟩],none⟩ hHeld ?_
 try simp only [Act.put,sA,sB,sC]
 refine wpAnyH_done (by kernel_rfl) ?_ _
 clear hHeld
 clear DI NT C116 he rT
 have hD3 : Hid (tD c i k ⟨14,dst,src,rc,n,tt,items,.slice a7 items.length p7,index,.slice a8 index.length p8⟩ = false):=hid rfl
 obtain ⟨b0,b1,b2⟩:=three0 KB.out
 obtain ⟨f0,f1,f2,f3,f4,f5,f6,f7⟩:=eight KX.out
 obtain ⟨c0,c1,c2,c3,c4⟩:=five0 KC.out
 have lb : _ < y2.heap.size:=KB.out.1
 have lx : _ < y2.heap.size:=KX.out.1
 have lc : _ < y2.heap.size:=KC.out.1
 go_upto_region 13 with fail
 clear lb lx lc b0 b1 b2 f0 f1 f2 f3 f4 f5 f6 f7 c0 c1 c2 c3 c4
 cases z6 : ((k : Int) == (b.code.length : Int) - 1)
 rotate_left
 ·have G : Hid (rr = false):=hid (by rw [F.out];simp [insF,tE,z6])
  clear F hA hB hC3 hD3 hgl hre hst hl hsl hc hs ht hx hsec C100 C115 C110
  obtain ⟨b0,b1,b2⟩:=three0 KB.out
  obtain ⟨f0,f1,f2,f3,f4,f5,f6,f7⟩:=eight KX.out
  obtain ⟨c0,c1,c2,c3,c4⟩:=five0 KC.out
  have lb : _ < y2.heap.size:=KB.out.1
  have lx : _ < y2.heap.size:=KX.out.1
  have lc : _ < y2.heap.size:=KC.out.1
  go_wp2_with fail
  go_ret
  exact ⟨retB G.out.symm,B1.out⟩
 have hE3 : Hid (tE b k ⟨14,dst,src,rc,n,tt,items,.slice a7 items.length p7,index,.slice a8 index.length p8⟩ = false):=hid (by simp [tE,z6])
 have F2 : Hid (rr = agreesB c i b k ⟨14,dst,src,rc,n,tt,items,.slice a7 items.length p7,index,.slice a8 index.length p8⟩):=hid (by rw [F.out];simp [insF,hA.out,hB.out,hC3.out,hD3.out,hE3.out,isOp])
 clear F hA hB hC3 hD3 hE3
 obtain ⟨b0,b1,b2⟩:=three0 KB.out
 obtain ⟨f0,f1,f2,f3,f4,f5,f6,f7⟩:=eight KX.out
 obtain ⟨c0,c1,c2,c3,c4⟩:=five0 KC.out
 have lb : _ < y2.heap.size:=KB.out.1
 have lx : _ < y2.heap.size:=KX.out.1
 have lc : _ < y2.heap.size:=KC.out.1
 clear hgl hre hst hl hsl hc hs ht hx hsec KC KB KX
 go_wp2_with (first | (go_at_call 30;with_reducible refine Calls.mono (C100.out _) ?_;rintro e w9 ⟨rfl,rfl⟩) | (go_at_call 30;with_reducible refine Calls.mono (C115.out _) ?_;rintro e w9 ⟨rfl,rfl⟩))
 go_ret
 exact ⟨retB (F2.out.trans (by rfl)).symm,bel2 B1.out _ _⟩

end Go.Proofs.YtdpbapoahfggeaaDoor
