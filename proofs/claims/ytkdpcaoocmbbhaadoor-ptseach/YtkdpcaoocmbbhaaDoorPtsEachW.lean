/- Each goes over the bits of a set, rising; it may be left at any time: the walk. -/
import Derived.Test.YtkdpcaoocmbbhaaDoorEn
import Derived.Test.YtkdpcaoocmbbhaaDoorM11
import Derived.Deep.LoopGhost
import Derived.Deep.DeepCutAuto
namespace Go.Proofs.YtkdpcaoocmbbhaaDoor
open Go.ChangeShapes Go.WideShapes Go.ChangeAt Go.RowKit Go.Deep
set_option linter.unusedVariables false
set_option linter.unusedSimpArgs false

theorem bitsF_add (s : Nat) : ∀ (a i b : Nat),bitsF s i (a + b) = bitsF s i a ++ bitsF s (i + a) b
 | 0,i,b=>by simp [bitsF]
 | a + 1,i,b=>by
  have ih:=bitsF_add s a (i + 1) b
  rw [show i + 1 + a = i + (a + 1) by omega] at ih
  rw [show a + 1 + b = (a + b) + 1 by omega]
  cases h : s.testBit i
  ·rw [bitsF_no _ h,bitsF_no _ h,ih]
  ·rw [bitsF_yes _ h,bitsF_yes _ h,ih];rfl
/-- How many bits there are ahead of one. -/
def ahead (s k : Nat) : Nat:=(bitsF s 0 k).length
theorem ahead_yes {s k : Nat} (h : s.testBit k = true) : ahead s (k + 1) = ahead s k + 1:=by
 unfold ahead
 rw [bitsF_add,List.length_append,Nat.zero_add,bitsF_yes _ h]
 rfl
theorem ahead_no {s k : Nat} (h : s.testBit k = false) : ahead s (k + 1) = ahead s k:=by
 unfold ahead
 rw [bitsF_add,List.length_append,Nat.zero_add,bitsF_no _ h]
 rfl
theorem ahead_at {s k : Nat} (hk : k < 64) (h : s.testBit k = true) : (bitsL s)[ahead s k]? = some k:=by
 unfold bitsL ahead
 rw [show 64 = k + ((63 - k) + 1) by omega,bitsF_add,List.getElem?_append_right (Nat.le_refl _),Nat.sub_self,Nat.zero_add,bitsF_yes _ h]
 rfl
theorem ahead_all (s : Nat) : ahead s 64 = (bitsL s).length:=rfl
theorem ahead_le (s k : Nat) : ahead s k≤k:=bitsF_len s k 0
theorem cellI_map : ∀ (l : List Nat),l.flatMap cellI = l.map (fun (x : Nat)=>Value.int .i64 (x : Int))
 | []=>rfl
 | y :: l=>by rw [List.flatMap_cons,cellI_map l];rfl
theorem rowI_own {w : World} {base : Nat} {v : Value} {l : List Nat} (h : w.ownsRow base 3 1 v l.length (l.flatMap cellI)) : ∃ a c,v = .slice a l.length c∧∀ (q x : Nat),l[q]? = some x→∃ g,a = some ⟨g,0,none⟩∧g < w.heap.size∧w.cell? ⟨g,q,none⟩ = some (.int .i64 (x : Int)):=by
 rcases h.2 with ⟨rfl,h0⟩ | ⟨g,cap,cur,rfl,hbg,hg,hle,hcm,hcs,htk⟩
 ·exact ⟨none,0,by rw [h0],fun q x hq=>by have:=(List.getElem?_eq_some_iff.1 hq).1;omega⟩
 ·refine ⟨_,_,rfl,fun q x hq=>⟨g,rfl,(Array.getElem?_eq_some_iff.1 hg).1,?_⟩⟩
  have e : (l.flatMap cellI)[q]? = some (.int .i64 (x : Int)):=by
   rw [cellI_map];simp [hq]
  have:=h.cells (g:=g) rfl q _ e
  rwa [add_plain,Nat.zero_add] at this

set_option maxRecDepth 100000 in
set_option maxHeartbeats 2000000 in
theorem each_walk (s : Nat) (hs : s < 18446744073709551616) (most : Int) (h1 : -9223372036854775808≤most) (h2 : most≤9223372036854775807) (w : World) (hTab : Tab w) :
  Calls Tryd.prog 6 #[.int .u64 (s : Int),.int .i64 most] w fun e w'=>e = .returned (.bool true)∧Below w.heap.size w w':=by
 have T:=hid (fun W (h : Below w.heap.size w W)=>(hTab.kept h : Tab W))
 have CA:=hid (fun W (h : Below w.heap.size w W)=>alive_any W (T.out W h))
 have CG:=hid (fun m W (h : Below w.heap.size w W)=>gone_any s hs m W (T.out W h))
 have CH:=hid (fun (k : Nat) W=>hasS_any s (by rw [p64];exact hs) (k : Int) W)
 have HL:=bits_len s
 have e64 : Hid ((bitsL s).take (max (64 : Int) 0).toNat = bitsL s):=hid (List.take_of_length_le HL)
 go_enter Tryd.func6,Tryd.ntmps6
 go_wp2_with (first
  | (go_at_call 8;refine Calls.mono (CA.out _ (Below.refl _ _)) ?_;rintro _ w1 ⟨rfl,hk⟩;have BX:=hid hk;clear hk CA)
  | (go_at_call 17;refine Calls.mono (CG.out _ _ BX.out) ?_;rintro _ W2 ⟨u,l,hl,rfl,ho,hk⟩;replace BX:=hid (BX.out.trans (hk.mono BX.out.size));rw [e64.out] at hl;obtain ⟨a,cp,rfl,hrow⟩:=rowI_own ho;have HR:=hid hrow;clear hrow ho hk))
 subst hl
 generalize hb : bitsL s = l at *
 replace hb:=hid hb
 go_loopw [6,7] (fun t6 t7 wr=>∃ k : Nat,t6 = .int .i64 (ahead s k : Nat)∧t7 = .int .i64 k∧k≤64∧Hid (Below w.heap.size w wr)∧Hid (Below W2.heap.size W2 wr)) (fun _ t7 _=>64 - (intOf t7).toNat)
 case atStart=>exact ⟨0,rfl,rfl,by omega,BX,hid (Below.refl _ _)⟩
 case round =>
  clear BX
  obtain ⟨k,rfl,rfl,hk,BX,B2⟩:=hrel
  have hal:=ahead_le s k
  by_cases hin : k < 64
  ·have CK:=hid (CH.out k)
   rw [hasB_nat s k hin] at CK
   cases hq : s.testBit k
   ·rw [hq] at CK
    have e1:=ahead_no hq
    clear CG HR
    go_wp2_with (go_at_call 18;refine Calls.mono (CK.out _) ?_;rintro _ w3 ⟨rfl,rfl⟩)
    go_roundw
    case rel=>exact ⟨k + 1,by rw [e1],by go_num,by omega,BX,B2⟩
    case measure=>simp [intOf];omega
   ·rw [hq] at CK
    have e1:=ahead_yes hq
    have hx:=ahead_at hin hq
    rw [hb.out] at hx
    have hlt:=(List.getElem?_eq_some_iff.1 hx).1
    obtain ⟨g,rfl,hg,hc⟩:=HR.out _ _ hx
    rw [← B2.out.cell hg] at hc
    have hltI : ((ahead s k : Nat) : Int) < (l.length : Int):=by omega
    generalize ahead s k = n at *
    clear CG HR
    go_wp2_with (go_at_call 18;refine Calls.mono (CK.out _) ?_;rintro _ w3 ⟨rfl,rfl⟩)
    go_roundw
    case rel=>exact ⟨k + 1,by rw [e1];go_num,by go_num,by omega,BX,B2⟩
    case measure=>simp [intOf];omega
  ·have e : k = 64:=by omega
   subst e
   have e0 : ahead s 64 = l.length:=by rw [ahead_all,hb.out]
   rw [e0]
   clear HR CH
   go_wp2_with (go_at_call 17;refine Calls.mono (CG.out _ _ BX.out) ?_;rintro _ w2 ⟨u,l2,hl,rfl,ho,hk⟩;replace BX:=hid (BX.out.trans (hk.mono BX.out.size));obtain ⟨a,cp,rfl,hrow⟩:=rowI_own ho;clear hrow ho hk CG)
   all_goals
    go_ret
    refine ⟨retB ?_,BX.out⟩
    rw [beq_iff_eq]
    have:=HL
    omega
end Go.Proofs.YtkdpcaoocmbbhaaDoor
