/- The walk of PtsIs. -/
import Derived.Test.YtkdpcaoocmbbhaaDoorWt
import Derived.Test.YtkdpcaoocmbbhaaDoorRk
import Derived.Test.YtkdpcaoocmbbhaaDoorM13
import Derived.Test.YtkdpcaoocmbbhaaDoorM07
import Derived.Test.YtkdpcaoocmbbhaaDoorM12
namespace Go.Proofs.YtkdpcaoocmbbhaaDoor
open Go.ChangeShapes Go.WideShapes Go.ChangeAt Go.RowKit Go.Deep
set_option linter.unusedVariables false
set_option linter.unusedSimpArgs false

set_option maxRecDepth 100000 in
set_option maxHeartbeats 2000000 in
theorem walkIs (v0 : Value) (c : Cd) (w : World) (w0 : IsCd w v0 c) (hTab : Tab w) :
  Calls Tryd.prog 3 #[v0] w fun e w'=>e = .returned (.bool true)∧Below w.heap.size w w':=by
 obtain ⟨rfl,hc⟩:=w0
 have DG:=hid (fun W (h : Below w.heap.size w W)=>great_any c W (Cd.kept hc h))
 have DS0:=hid (fun (s : SmallP c) W (h : Below w.heap.size w W)=>solve_at (solve_any c W (Cd.kept hc h) s (hTab.kept h)))
 have DD0:=hid (fun (s : SmallP c) W (h : Below w.heap.size w W)=>solve_at (dsolve_any c W (Cd.kept hc h) s))
 simp only [Cd.cells] at DS0 DD0
 have CA:=hid (fun W (h : Below w.heap.size w W)=>alive_any W (hTab.kept h))
 have B:=hid ((Below.refl w.heap.size w).alloc (Nat.le_refl _) (.cells #[c.rv,c.gv,c.tv,c.ev,c.cv] 28))
 have KC:=hid (VarAt.new w [c.rv,c.gv,c.tv,c.ev,c.cv] 28)
 clear hc
 go_enter Tryd.func3,Tryd.ntmps3
 go_wp2_with (go_at_call 8;refine Calls.mono (CA.out _ B.out) ?_;rintro e w1 ⟨rfl,hb⟩;replace B:=hid (B.out.trans (hb.mono B.out.size));replace KC:=hid (KC.out.kept hb);clear hb CA)
 refine wp_region_held_drew (S:=fun (w' : World)=>w'.cell? ⟨w.heap.size,0,none⟩ = some (c.rv)∧w'.cell? ⟨w.heap.size,1,none⟩ = some (c.gv)∧w'.cell? ⟨w.heap.size,2,none⟩ = some (c.tv)∧w'.cell? ⟨w.heap.size,3,none⟩ = some (c.ev)∧w'.cell? ⟨w.heap.size,4,none⟩ = some (c.cv)) (by kernel_rfl) (cells5 (KC.out.kept (Below.refl _ _).drew)) (fun hHeld=>?_)
 refine wT 0 ⟨some 5,.load 28 (.tmp 1),28,"law.go:29",#[],none⟩ hHeld ?_
 try simp only [Act.put,sA,sB,sC]
 refine wO 1 ⟨some 6,.call ⟨.value (.func 9),#[.tmp 5],#[28]⟩,4,"law.go:29",#[⟨0,.data⟩],none⟩ (fun K' hK'=>?_)
 go_simp
 replace B:=hid B.out.drew
 replace KC:=hid (KC.out.kept (Below.refl _ _).drew)
 go_at_call 9
 refine Calls.mono (DG.out _ B.out) ?_
 rintro e y1 ⟨q,rfl,hq,hb⟩
 replace B:=hid (B.out.trans (hb.mono B.out.size))
 replace KC:=hid (KC.out.kept hb)
 replace hq:=hid hq
 clear hb
 have hz:=hid (cells5 KC.out)
 refine hK'.out _ _ hz.out (fun hHeld=>?_)
 clear hK' K'
 try simp only [Act.put,sA,sB,sC]
 refine wT 2 ⟨some 7,.move (.tmp 6),4,"law.go:29",#[⟨1,.data⟩,⟨1,.chain⟩],none⟩ hHeld ?_
 try simp only [Act.put,sA,sB,sC]
 cases q
 rotate_left
 ·clear DS0 DD0 hq
  refine wU 3 ⟨some 8,.load 28 (.tmp 1),28,"law.go:29",#[⟨2,.guard⟩],some (2,false)⟩ hHeld ?_
  try simp only [Act.put,sA,sB,sC]
  refine wU 5 ⟨some 10,.load 28 (.tmp 1),28,"law.go:29",#[⟨2,.guard⟩],some (2,false)⟩ hHeld ?_
  try simp only [Act.put,sA,sB,sC]
  refine wO 4 ⟨some 9,.call ⟨.value (.func 11),#[.tmp 8],#[28]⟩,35,"law.go:29",#[⟨3,.data⟩,⟨2,.chain⟩,⟨2,.guard⟩],some (2,false)⟩ (fun K' hK'=>?_)
  go_simp
  refine hK'.out _ _ hHeld (fun hHeld=>?_)
  clear hK' K'
  try simp only [Act.put,sA,sB,sC]
  refine wO 6 ⟨some 11,.call ⟨.value (.func 12),#[.tmp 10],#[28]⟩,35,"law.go:29",#[⟨5,.data⟩,⟨4,.chain⟩,⟨2,.guard⟩],some (2,false)⟩ (fun K' hK'=>?_)
  go_simp
  refine hK'.out _ _ hHeld (fun hHeld=>?_)
  clear hK' K'
  try simp only [Act.put,sA,sB,sC]
  refine wO 7 ⟨some 12,.call ⟨.value (.func 10),#[.tmp 9,.tmp 11],#[35,35]⟩,4,"law.go:29",#[⟨4,.data⟩,⟨6,.data⟩,⟨6,.chain⟩,⟨2,.guard⟩],some (2,false)⟩ (fun K' hK'=>?_)
  go_simp
  refine hK'.out _ _ hHeld (fun hHeld=>?_)
  clear hK' K'
  try simp only [Act.put,sA,sB,sC]
  refine wT 8 ⟨some 13,.pick (.tmp 7) (.const (.bool true)) (.tmp 12),4,"law.go:29",#[⟨2,.data⟩,⟨7,.data⟩],none⟩ hHeld ?_
  try simp only [Act.put,sA,sB,sC]
  refine wT 9 ⟨some 2,.assign (.tmp 13),4,"law.go:29",#[⟨8,.data⟩,⟨7,.chain⟩,⟨0,.phase⟩,⟨1,.phase⟩,⟨2,.phase⟩,⟨3,.phase⟩,⟨4,.phase⟩,⟨5,.phase⟩,⟨6,.phase⟩,⟨7,.phase⟩,⟨8,.phase⟩],none⟩ hHeld ?_
  try simp only [Act.put,sA,sB,sC]
  refine wpAnyH_done (by kernel_rfl) ?_ _
  clear hHeld
  go_wp2_with fail
  go_ret
  exact ⟨rfl,B.out⟩
 ·have DS:=hid (DS0.out (hq.out rfl))
  have DD:=hid (DD0.out (hq.out rfl))
  clear DS0 DD0 hq
  refine wT 3 ⟨some 8,.load 28 (.tmp 1),28,"law.go:29",#[⟨2,.guard⟩],some (2,false)⟩ hHeld ?_
  try simp only [Act.put,sA,sB,sC]
  refine wT 5 ⟨some 10,.load 28 (.tmp 1),28,"law.go:29",#[⟨2,.guard⟩],some (2,false)⟩ hHeld ?_
  try simp only [Act.put,sA,sB,sC]
  refine wO 4 ⟨some 9,.call ⟨.value (.func 11),#[.tmp 8],#[28]⟩,35,"law.go:29",#[⟨3,.data⟩,⟨2,.chain⟩,⟨2,.guard⟩],some (2,false)⟩ (fun K' hK'=>?_)
  go_simp
  go_at_call 11
  refine Calls.mono (DS.out _ B.out) ?_
  rintro e y2 ⟨v0,v1,v2,rfl,sa,hb⟩
  replace B:=hid (B.out.trans (hb.mono B.out.size))
  replace KC:=hid (KC.out.kept hb)
  have SA:=hid sa
  clear hb sa
  have hz:=hid (cells5 KC.out)
  refine hK'.out _ _ hz.out (fun hHeld=>?_)
  clear hK' K'
  try simp only [Act.put,sA,sB,sC]
  refine wO 6 ⟨some 11,.call ⟨.value (.func 12),#[.tmp 10],#[28]⟩,35,"law.go:29",#[⟨5,.data⟩,⟨4,.chain⟩,⟨2,.guard⟩],some (2,false)⟩ (fun K' hK'=>?_)
  go_simp
  go_at_call 12
  refine Calls.mono (DD.out _ B.out) ?_
  rintro e y3 ⟨u0,u1,u2,rfl,sb,hb⟩
  replace B:=hid (B.out.trans (hb.mono B.out.size))
  replace KC:=hid (KC.out.kept hb)
  replace SA:=hid (SA.out.kept hb)
  have SB:=hid sb
  clear hb sb
  have hz:=hid (cells5 KC.out)
  refine hK'.out _ _ hz.out (fun hHeld=>?_)
  clear hK' K'
  try simp only [Act.put,sA,sB,sC]
  refine wO 7 ⟨some 12,.call ⟨.value (.func 10),#[.tmp 9,.tmp 11],#[35,35]⟩,4,"law.go:29",#[⟨4,.data⟩,⟨6,.data⟩,⟨6,.chain⟩,⟨2,.guard⟩],some (2,false)⟩ (fun K' hK'=>?_)
  go_simp
  go_at_call 10
  refine Calls.mono (same_sol SA.out SB.out) ?_
  rintro e y4 ⟨rfl,hb⟩
  replace B:=hid (B.out.trans (hb.mono B.out.size))
  replace KC:=hid (KC.out.kept hb)
  clear hb SA SB
  have hz:=hid (cells5 KC.out)
  refine hK'.out _ _ hz.out (fun hHeld=>?_)
  clear hK' K'
  try simp only [Act.put,sA,sB,sC]
  refine wT 8 ⟨some 13,.pick (.tmp 7) (.const (.bool true)) (.tmp 12),4,"law.go:29",#[⟨2,.data⟩,⟨7,.data⟩],none⟩ hHeld ?_
  try simp only [Act.put,sA,sB,sC]
  refine wT 9 ⟨some 2,.assign (.tmp 13),4,"law.go:29",#[⟨8,.data⟩,⟨7,.chain⟩,⟨0,.phase⟩,⟨1,.phase⟩,⟨2,.phase⟩,⟨3,.phase⟩,⟨4,.phase⟩,⟨5,.phase⟩,⟨6,.phase⟩,⟨7,.phase⟩,⟨8,.phase⟩],none⟩ hHeld ?_
  try simp only [Act.put,sA,sB,sC]
  refine wpAnyH_done (by kernel_rfl) ?_ _
  clear hHeld
  go_wp2_with fail
  go_ret
  exact ⟨rfl,B.out⟩
end Go.Proofs.YtkdpcaoocmbbhaaDoor
