/- Round: slots and fields copied. -/
import Derived.Test.YtkdpcaoocmbbhaaDoorWt
import Derived.Test.YtkdpcaoocmbbhaaDoorRb
namespace Go.Proofs.YtkdpcaoocmbbhaaDoor
open Go.ChangeShapes Go.WideShapes Go.ChangeAt Go.RowKit Go.Deep
set_option linter.unusedVariables false
set_option linter.unusedSimpArgs false

set_option maxRecDepth 1000000 in
set_option maxHeartbeats 4000000 in
theorem copyT {W : World} {sb base top base0 top0 : Nat} {c : Cd} {v0 v1 v2 w0 w1 w2 : Value} {R R0 : List (List Nat)} {V V1 : Nat→Value} {B B1 : Nat→Nat} (hs : SetsM W base0 top0 c.threads.length c.sites.length v0 v1 v2 R V B) (hG : ∀ r,(R.getD r []).length≤1000) (hN : c.threads.length≤1000) {u0 u1 u6 u7 u8 u9 u10 u11 u12 u13 u14 u15 u16 u17 u18 u19 u20 u21 u22 u23 u24 u25 u26 u27 u28 u29 u30 u31 u32 u33 u34 u35 u36 u37 u38 u39 u40 u41 u42 u43 u44 u45 u46 u47 u48 u49 u50 u51 u52 u53 u54 u55 u56 u57 u58 u59 u60 u61 u62 u63 u64 u65 u66 u67 u68 u69 u70 u71 u72 u73 u74 u75 u76 u77 u78 u79 u80 u81 u82 u83 u84 u85 u86 u87 u88 u89 u90 u91 u92 u93 u94 u95 u96 u97 u98 u99 u100 u101 u102 u103 u104 u105 u106 u107 u108 u109 u110 u111 u112 u113 u114 u115 u116 u117 u118 u119 u120 u121 u122 u123 u124 u125 u126 u127 u128 u129 u130 u131 u132 u133 u134 u135 u136 u137 u138 u139 u140 u141 u142 u143 u144 u145 u146 u147 u148 u149 u150 u151 u152 u153 u154 u155 u156 u157 u158 u159 u160 u161 u162 u163 u164 u165 u166 u167 u168 u169 u170 u171 u172 u173 u174 u175 u176 u177 u178 u179 u180 u181 u182 u183 u184 u185 u186 u187 u188 u189 u190 u191 u192 u193 u194 u195 u196 u197 u198 u199 u200 u201 u202 u203 u204 u205 u206 u207 u208 u209 u210 u211 u212 u213 u214 u215 u216 u217 u218 u219 u220 u221 u222 u223 u224 u225 u226 u227 u228 u229 u230 u231 u232 u233 u234 u235 u236 u237 u238 : Value} {X : World}
  (h0 : Rnd W sb base top c v0 v1 v2 w0 w1 w2 R0 V1 B1 X) (hc : Cpy R R0 (fun r _=>r = c.threads.length)) {Q : Exit→Act→World→Prop} (hP : ∀ c (a : Act) i v w,Q (.panic c) (a.put i v) w→Q (.panic c) a w)
  (hQ : ∀ (u7 u8 u35 u36 u37 u38 u39 u40 u41 u42 u43 u44 u45 u46 u47 u48 u49 u50 u51 u52 u53 u54 u55 u56 u57 u58 u59 u60 u61 u62 u63 u64 u65 u66 : Value) (R1 : List (List Nat)) (X1 : World),Rnd W sb base top c v0 v1 v2 w0 w1 w2 R1 V1 B1 X1→Cpy R R1 (fun r _=>r < c.threads.length + 1)→Q .normal ⟨#[u0,u1,.pointer (some ⟨W.heap.size,0,none⟩),.pointer (some ⟨W.heap.size + 1,0,none⟩),.pointer (some ⟨W.heap.size + 2,0,none⟩),.pointer (some ⟨sb,0,none⟩),u6,u7,u8,u9,u10,u11,u12,u13,u14,u15,u16,u17,u18,u19,u20,u21,u22,u23,u24,u25,u26,u27,u28,u29,u30,u31,u32,u33,u34,u35,u36,u37,u38,u39,u40,u41,u42,u43,u44,u45,u46,u47,u48,u49,u50,u51,u52,u53,u54,u55,u56,u57,u58,u59,u60,u61,u62,u63,u64,u65,u66,u67,u68,u69,u70,u71,u72,u73,u74,u75,u76,u77,u78,u79,u80,u81,u82,u83,u84,u85,u86,u87,u88,u89,u90,u91,u92,u93,u94,u95,u96,u97,u98,u99,u100,u101,u102,u103,u104,u105,u106,u107,u108,u109,u110,u111,u112,u113,u114,u115,u116,u117,u118,u119,u120,u121,u122,u123,u124,u125,u126,u127,u128,u129,u130,u131,u132,u133,u134,u135,u136,u137,u138,u139,u140,u141,u142,u143,u144,u145,u146,u147,u148,u149,u150,u151,u152,u153,u154,u155,u156,u157,u158,u159,u160,u161,u162,u163,u164,u165,u166,u167,u168,u169,u170,u171,u172,u173,u174,u175,u176,u177,u178,u179,u180,u181,u182,u183,u184,u185,u186,u187,u188,u189,u190,u191,u192,u193,u194,u195,u196,u197,u198,u199,u200,u201,u202,u203,u204,u205,u206,u207,u208,u209,u210,u211,u212,u213,u214,u215,u216,u217,u218,u219,u220,u221,u222,u223,u224,u225,u226,u227,u228,u229,u230,u231,u232,u233,u234,u235,u236,u237,u238],[]⟩ X1) :
  Code.wp Tryd.prog (lft (rgt (rgt (rgt (Tryd.f14.body.getD .skip))))) Q ⟨#[u0,u1,.pointer (some ⟨W.heap.size,0,none⟩),.pointer (some ⟨W.heap.size + 1,0,none⟩),.pointer (some ⟨W.heap.size + 2,0,none⟩),.pointer (some ⟨sb,0,none⟩),u6,u7,u8,u9,u10,u11,u12,u13,u14,u15,u16,u17,u18,u19,u20,u21,u22,u23,u24,u25,u26,u27,u28,u29,u30,u31,u32,u33,u34,u35,u36,u37,u38,u39,u40,u41,u42,u43,u44,u45,u46,u47,u48,u49,u50,u51,u52,u53,u54,u55,u56,u57,u58,u59,u60,u61,u62,u63,u64,u65,u66,u67,u68,u69,u70,u71,u72,u73,u74,u75,u76,u77,u78,u79,u80,u81,u82,u83,u84,u85,u86,u87,u88,u89,u90,u91,u92,u93,u94,u95,u96,u97,u98,u99,u100,u101,u102,u103,u104,u105,u106,u107,u108,u109,u110,u111,u112,u113,u114,u115,u116,u117,u118,u119,u120,u121,u122,u123,u124,u125,u126,u127,u128,u129,u130,u131,u132,u133,u134,u135,u136,u137,u138,u139,u140,u141,u142,u143,u144,u145,u146,u147,u148,u149,u150,u151,u152,u153,u154,u155,u156,u157,u158,u159,u160,u161,u162,u163,u164,u165,u166,u167,u168,u169,u170,u171,u172,u173,u174,u175,u176,u177,u178,u179,u180,u181,u182,u183,u184,u185,u186,u187,u188,u189,u190,u191,u192,u193,u194,u195,u196,u197,u198,u199,u200,u201,u202,u203,u204,u205,u206,u207,u208,u209,u210,u211,u212,u213,u214,u215,u216,u217,u218,u219,u220,u221,u222,u223,u224,u225,u226,u227,u228,u229,u230,u231,u232,u233,u234,u235,u236,u237,u238],[]⟩ X:=by
 conv=>arg 2;whnf
 have HQ:=hid hQ
 have HP:=hid hP
 clear hQ hP
 obtain ⟨s0,n0,q0,s1,n1,q1,s2,n2,q2,f0,f1,f2⟩:=hs.ones
 obtain ⟨t0,m0,r0,t1,m1,r1,t2,m2,r2,g0,g1,g2⟩:=h0.sets.ones
 have HR:=hid (fun i (hi : i < c.threads.length)=>hs.rowT hi)
 have e0 : n0 = c.threads.length:=by
  obtain ⟨a,cp,e,-⟩:=hs.o0
  rw [f0] at e
  exact (Value.slice.inj e).2.1
 have e1 : m0 = c.threads.length:=by
  obtain ⟨a,cp,e,-⟩:=h0.sets.o0
  rw [g0] at e
  exact (Value.slice.inj e).2.1
 subst f0;subst f1;subst f2;subst g0;subst g1;subst g2
 subst n0;subst m0
 have H0:=hid h0
 have HC:=hid hc
 have HLen:=hid hG
 have d1:=h0.b1.cell 0 rfl
 clear h0 hc hs hG
 go_wp2_with fail
 go_loopw [38] (fun t wr=>∃ (i : Nat) (R1 : List (List Nat)),t = .int .i64 i∧i≤c.threads.length∧Hid (Rnd W sb base top c (.slice s0 c.threads.length q0) (.slice s1 n1 q1) (.slice s2 n2 q2) (.slice t0 c.threads.length r0) (.slice t1 m1 r1) (.slice t2 m2 r2) R1 V1 B1 wr)∧Hid (Cpy R R1 (fun r j=>r = c.threads.length∨r < i))) (fun t _=>c.threads.length - (intOf t).toNat)
 case atStart=>exact ⟨0,R0,rfl,by omega,H0,hid (HC.out.imp (fun r' j' hj h=>by omega))⟩
 case round =>
  obtain ⟨i,R1,rfl,hi,RR,CC⟩:=hrel
  obtain ⟨wo,rfl⟩ : ∃ wo : World,wo = wr:=⟨wr,rfl⟩
  clear H0 HC d1
  by_cases hin : i < c.threads.length
  ·obtain ⟨ob,oo,oc,a,cp,eo,-,-,hob0,hc0,-,hin0⟩:=HR.out i hin
   obtain ⟨rfl,-,rfl⟩:=Value.slice.inj eo
   have d1:=RR.out.b1.cell 0 rfl
   have d2:=(RR.out.bel.cell (p:=⟨ob,oo + i,none⟩) hob0).trans hc0
   have hob:=hid hob0
   have hcell:=hid hc0
   have HI:=hid hin0
   have hiI : (i : Int) < (c.threads.length : Int):=by omega
   have hll:=HLen.out (i)
   have CC0:=hid (CC.out.imp (P':=fun r j=>r = c.threads.length∨r < i∨(r = i∧j < 0)) (fun r' j' hj h=>by omega))
   clear eo hob0 hc0 hin0
   generalize hlr : (R.getD (i) []).length = li at *
   replace hlr:=hid hlr
   go_wp2_with fail
   go_loopw [47] (fun t wr=>∃ (k : Nat) (R1 : List (List Nat)),t = .int .i64 k∧k≤li∧Hid (Rnd W sb base top c (.slice (some ⟨ob,oo,none⟩) c.threads.length q0) (.slice s1 n1 q1) (.slice s2 n2 q2) (.slice t0 c.threads.length r0) (.slice t1 m1 r1) (.slice t2 m2 r2) R1 V1 B1 wr)∧Hid (Cpy R R1 (fun r j=>r = c.threads.length∨r < i∨(r = i∧j < k)))) (fun t _=>li - (intOf t).toNat)
   case atStart=>exact ⟨0,R1,rfl,by omega,RR,CC0⟩
   case round =>
    clear RR CC CC0 d1 d2
    obtain ⟨k,R2,rfl,hk,RR,CC⟩:=hrel
    by_cases hkn : k < li
    ·obtain ⟨rfl,hvs,hrd0⟩:=HI.out k hkn
     have hk1' : k < (R2.getD (i) []).length:=by rw [CC.out.len,hlr.out];exact hkn
     obtain ⟨ob1,oo1,oc1,a1,cp1,eo1,o1,o2,o3,o4,o5,o6⟩:=RR.out.sets.rowT hin
     obtain ⟨rfl,-,rfl⟩:=Value.slice.inj eo1
     obtain ⟨rfl,hvv0,-⟩:=o6 k hk1'
     rw [CC.out.len,hlr.out] at o4
     have RD:=hid RR.out.drew
     have hvv:=hid (hvv0.kept (Below.refl _ _).drew)
     have hlt:=hid hvs.lt
     have hk1:=hid hk1'
     have hne:=hid (fun e=>o5 ⟨i,fun q=>by rw [q] at hk1';simp at hk1',e⟩ : ob1 ≠ B1 (i))
     have CN:=hid (CC.out.step (P':=fun r j=>r = c.threads.length∨r < i∨(r = i∧j < (k + 1))) hk1' (fun r' j' h=>by omega))
     have hrd:=hid hrd0
     have d1:=RD.out.bo.cell 0 rfl
     have d2:=((Below.refl wr.heap.size wr).drew.cell (p:=⟨ob1,oo1 + i,none⟩) o3).trans o4
     have d3:=RD.out.b1.cell 0 rfl
     have d4:=(RD.out.bel.cell (p:=⟨ob,oo + i,none⟩) hob.out).trans hcell.out
     have d5:=(RD.out.bel.cell (p:=⟨B (i),k,none⟩) hlt.out).trans hrd0
     have hkI : (k : Int) < (li : Int):=by omega
     generalize gR R (i) k = z at *
     clear hvs hvv0 hk1' HI RR CC hrd0 eo1 o1 o2 o3 o4 o5 o6 HR HQ HLen
     go_wp2_with fail
     refine wp_region_held_drew (S:=fun (w' : World)=>w'.cell? ⟨sb,0,none⟩ = some (.slice (some ⟨ob1,oo1,none⟩) c.threads.length r0)∧w'.cell? ⟨ob1,oo1 + i,none⟩ = some (.slice (some ⟨B1 (i),0,none⟩) li cp1)∧w'.cell? ⟨W.heap.size + 1,0,none⟩ = some (.slice (some ⟨ob,oo,none⟩) c.threads.length q0)∧w'.cell? ⟨ob,oo + i,none⟩ = some (.slice (some ⟨B (i),0,none⟩) li cp)∧w'.cell? ⟨B (i),k,none⟩ = some (.int .u64 (z : Int))) (by kernel_rfl) (⟨d1,d2,d3,d4,d5⟩) (fun hHeld=>?_)
     refine wP 0 ⟨some 50,.fieldAddr 35 (.tmp 5) 0,0,"ref.go:79",#[],none⟩ HP hHeld ?_
     try simp only [Act.put,sA,sB,sC]
     refine wP 1 ⟨some 51,.load 32 (.tmp 50),32,"ref.go:79",#[⟨0,.data⟩],none⟩ HP hHeld ?_
     try simp only [Act.put,sA,sB,sC]
     refine wP 2 ⟨some 52,.move (.tmp 7),3,"ref.go:79",#[],none⟩ HP hHeld ?_
     try simp only [Act.put,sA,sB,sC]
     refine wP 3 ⟨some 53,.indexAddr 32 (.tmp 51) (.tmp 52),0,"ref.go:79",#[⟨1,.data⟩,⟨2,.data⟩],none⟩ HP hHeld ?_
     try simp only [Act.put,sA,sB,sC]
     refine wP 4 ⟨some 54,.load 33 (.tmp 53),33,"ref.go:79",#[⟨3,.data⟩],none⟩ HP hHeld ?_
     try simp only [Act.put,sA,sB,sC]
     refine wP 5 ⟨some 55,.move (.tmp 8),3,"ref.go:79",#[],none⟩ HP hHeld ?_
     try simp only [Act.put,sA,sB,sC]
     refine wP 6 ⟨some 56,.fieldAddr 35 (.tmp 3) 0,0,"ref.go:79",#[],none⟩ HP hHeld ?_
     try simp only [Act.put,sA,sB,sC]
     refine wP 7 ⟨some 57,.load 32 (.tmp 56),32,"ref.go:79",#[⟨6,.data⟩],none⟩ HP hHeld ?_
     try simp only [Act.put,sA,sB,sC]
     refine wP 8 ⟨some 58,.move (.tmp 7),3,"ref.go:79",#[],none⟩ HP hHeld ?_
     try simp only [Act.put,sA,sB,sC]
     refine wP 9 ⟨some 59,.indexAddr 32 (.tmp 57) (.tmp 58),0,"ref.go:79",#[⟨7,.data⟩,⟨8,.data⟩],none⟩ HP hHeld ?_
     try simp only [Act.put,sA,sB,sC]
     refine wP 10 ⟨some 60,.load 33 (.tmp 59),33,"ref.go:79",#[⟨9,.data⟩],none⟩ HP hHeld ?_
     try simp only [Act.put,sA,sB,sC]
     refine wP 11 ⟨some 61,.move (.tmp 8),3,"ref.go:79",#[],none⟩ HP hHeld ?_
     try simp only [Act.put,sA,sB,sC]
     refine wP 12 ⟨some 62,.indexAddr 33 (.tmp 60) (.tmp 61),0,"ref.go:79",#[⟨10,.data⟩,⟨11,.data⟩],none⟩ HP hHeld ?_
     try simp only [Act.put,sA,sB,sC]
     refine wP 13 ⟨some 63,.load 44 (.tmp 62),44,"ref.go:79",#[⟨12,.data⟩],none⟩ HP hHeld ?_
     try simp only [Act.put,sA,sB,sC]
     refine wP 14 ⟨some 64,.indexAddr 33 (.tmp 54) (.tmp 55),0,"ref.go:79",#[⟨4,.data⟩,⟨5,.data⟩,⟨0,.phase⟩,⟨1,.phase⟩,⟨2,.phase⟩,⟨3,.phase⟩,⟨4,.phase⟩,⟨5,.phase⟩,⟨6,.phase⟩,⟨7,.phase⟩,⟨8,.phase⟩,⟨9,.phase⟩,⟨10,.phase⟩,⟨11,.phase⟩,⟨12,.phase⟩,⟨13,.phase⟩],none⟩ HP hHeld ?_
     try simp only [Act.put,sA,sB,sC]
     refine wO 15 ⟨none,.store 44 (.tmp 64) (.tmp 63),0,"ref.go:79",#[⟨14,.data⟩,⟨13,.data⟩,⟨0,.phase⟩,⟨1,.phase⟩,⟨2,.phase⟩,⟨3,.phase⟩,⟨4,.phase⟩,⟨5,.phase⟩,⟨6,.phase⟩,⟨7,.phase⟩,⟨8,.phase⟩,⟨9,.phase⟩,⟨10,.phase⟩,⟨11,.phase⟩,⟨12,.phase⟩,⟨13,.phase⟩],none⟩ (fun K' hK'=>?_)
     refine step_store_cell 44 _ _ (by rfl) (by rfl) (B1 (i)) k (by rfl) (.int .u64 (z : Int)) (by rfl) size44 rfl _ _ hvv.out (by rw [cellsN_len];exact hk1.out) ?_
     intro X1 hv ht
     have RS:=RD.out.stored hk1.out hv ht
     have hz:=hid (show X1.cell? ⟨sb,0,none⟩ = some (.slice (some ⟨ob1,oo1,none⟩) c.threads.length r0)∧X1.cell? ⟨ob1,oo1 + i,none⟩ = some (.slice (some ⟨B1 (i),0,none⟩) li cp1)∧X1.cell? ⟨W.heap.size + 1,0,none⟩ = some (.slice (some ⟨ob,oo,none⟩) c.threads.length q0)∧X1.cell? ⟨ob,oo + i,none⟩ = some (.slice (some ⟨B (i),0,none⟩) li cp)∧X1.cell? ⟨B (i),k,none⟩ = some (.int .u64 (z : Int)) from ⟨RS.bo.cell 0 rfl,(World.cell?_of_block (ht.block ob1 hne.out)).trans d2,RS.b1.cell 0 rfl,(RS.bel.cell (p:=⟨ob,oo + i,none⟩) hob.out).trans hcell.out,(RS.bel.cell (p:=⟨B (i),k,none⟩) hlt.out).trans hrd.out⟩)
     replace RS:=hid RS
     clear hv ht
     refine hK'.out _ _ hz.out (fun hHeld=>?_)
     clear hK' K'
     try simp only [Act.put,sA,sB,sC]
     refine wpAnyH_done (by kernel_rfl) ?_ _
     clear hHeld
     go_wp2_with fail
     go_roundw
     case rel=>exact ⟨k + 1,_,by go_num,by omega,RS,CN⟩
     case measure=>simp [intOf];omega
    ·have e : k = li:=by omega
     subst e
     have CN:=hid (CC.out.imp (P':=fun r j=>r = c.threads.length∨r < (i + 1)) (fun r j hj h=>by
      by_cases e : r = i
      ·rw [e,hlr.out] at hj
       omega
      ·omega))
     clear HI CC HR HQ
     go_wp2_with fail
     go_roundw
     case rel=>exact ⟨i + 1,_,by go_num,by omega,RR,CN⟩
     case measure=>simp [intOf];omega
  ·have e : i = c.threads.length:=by omega
   subst e
   have CN:=hid (CC.out.imp (P':=fun r _=>r < c.threads.length + 1) (fun r j hj h=>by omega))
   clear HR CC
   go_wp2_with fail
   exact HQ.out _ _ _ _ _ _ _ _ _ _ _ _ _ _ _ _ _ _ _ _ _ _ _ _ _ _ _ _ _ _ _ _ _ _ _ _ RR.out CN.out
set_option maxRecDepth 1000000 in
set_option maxHeartbeats 4000000 in
theorem copyS {W : World} {sb base top base0 top0 : Nat} {c : Cd} {v0 v1 v2 w0 w1 w2 : Value} {R R0 : List (List Nat)} {V V1 : Nat→Value} {B B1 : Nat→Nat} (hs : SetsM W base0 top0 c.threads.length c.sites.length v0 v1 v2 R V B) (hG : ∀ r,(R.getD r []).length≤1000) (hN : c.sites.length≤1000) {u0 u1 u6 u7 u8 u9 u10 u11 u12 u13 u14 u15 u16 u17 u18 u19 u20 u21 u22 u23 u24 u25 u26 u27 u28 u29 u30 u31 u32 u33 u34 u35 u36 u37 u38 u39 u40 u41 u42 u43 u44 u45 u46 u47 u48 u49 u50 u51 u52 u53 u54 u55 u56 u57 u58 u59 u60 u61 u62 u63 u64 u65 u66 u67 u68 u69 u70 u71 u72 u73 u74 u75 u76 u77 u78 u79 u80 u81 u82 u83 u84 u85 u86 u87 u88 u89 u90 u91 u92 u93 u94 u95 u96 u97 u98 u99 u100 u101 u102 u103 u104 u105 u106 u107 u108 u109 u110 u111 u112 u113 u114 u115 u116 u117 u118 u119 u120 u121 u122 u123 u124 u125 u126 u127 u128 u129 u130 u131 u132 u133 u134 u135 u136 u137 u138 u139 u140 u141 u142 u143 u144 u145 u146 u147 u148 u149 u150 u151 u152 u153 u154 u155 u156 u157 u158 u159 u160 u161 u162 u163 u164 u165 u166 u167 u168 u169 u170 u171 u172 u173 u174 u175 u176 u177 u178 u179 u180 u181 u182 u183 u184 u185 u186 u187 u188 u189 u190 u191 u192 u193 u194 u195 u196 u197 u198 u199 u200 u201 u202 u203 u204 u205 u206 u207 u208 u209 u210 u211 u212 u213 u214 u215 u216 u217 u218 u219 u220 u221 u222 u223 u224 u225 u226 u227 u228 u229 u230 u231 u232 u233 u234 u235 u236 u237 u238 : Value} {X : World}
  (h0 : Rnd W sb base top c v0 v1 v2 w0 w1 w2 R0 V1 B1 X) (hc : Cpy R R0 (fun r _=>r < c.threads.length + 1)) {Q : Exit→Act→World→Prop} (hP : ∀ c (a : Act) i v w,Q (.panic c) (a.put i v) w→Q (.panic c) a w)
  (hQ : ∀ (u9 u10 u67 u68 u69 u70 u71 u72 u73 u74 u75 u76 u77 u78 u79 u80 u81 u82 u83 u84 u85 u86 u87 u88 u89 u90 u91 u92 u93 u94 u95 u96 u97 u98 : Value) (R1 : List (List Nat)) (X1 : World),Rnd W sb base top c v0 v1 v2 w0 w1 w2 R1 V1 B1 X1→Cpy R R1 (fun r _=>r < c.threads.length + 1 + c.sites.length)→Q .normal ⟨#[u0,u1,.pointer (some ⟨W.heap.size,0,none⟩),.pointer (some ⟨W.heap.size + 1,0,none⟩),.pointer (some ⟨W.heap.size + 2,0,none⟩),.pointer (some ⟨sb,0,none⟩),u6,u7,u8,u9,u10,u11,u12,u13,u14,u15,u16,u17,u18,u19,u20,u21,u22,u23,u24,u25,u26,u27,u28,u29,u30,u31,u32,u33,u34,u35,u36,u37,u38,u39,u40,u41,u42,u43,u44,u45,u46,u47,u48,u49,u50,u51,u52,u53,u54,u55,u56,u57,u58,u59,u60,u61,u62,u63,u64,u65,u66,u67,u68,u69,u70,u71,u72,u73,u74,u75,u76,u77,u78,u79,u80,u81,u82,u83,u84,u85,u86,u87,u88,u89,u90,u91,u92,u93,u94,u95,u96,u97,u98,u99,u100,u101,u102,u103,u104,u105,u106,u107,u108,u109,u110,u111,u112,u113,u114,u115,u116,u117,u118,u119,u120,u121,u122,u123,u124,u125,u126,u127,u128,u129,u130,u131,u132,u133,u134,u135,u136,u137,u138,u139,u140,u141,u142,u143,u144,u145,u146,u147,u148,u149,u150,u151,u152,u153,u154,u155,u156,u157,u158,u159,u160,u161,u162,u163,u164,u165,u166,u167,u168,u169,u170,u171,u172,u173,u174,u175,u176,u177,u178,u179,u180,u181,u182,u183,u184,u185,u186,u187,u188,u189,u190,u191,u192,u193,u194,u195,u196,u197,u198,u199,u200,u201,u202,u203,u204,u205,u206,u207,u208,u209,u210,u211,u212,u213,u214,u215,u216,u217,u218,u219,u220,u221,u222,u223,u224,u225,u226,u227,u228,u229,u230,u231,u232,u233,u234,u235,u236,u237,u238],[]⟩ X1) :
  Code.wp Tryd.prog (lft (rgt (rgt (rgt (rgt (Tryd.f14.body.getD .skip)))))) Q ⟨#[u0,u1,.pointer (some ⟨W.heap.size,0,none⟩),.pointer (some ⟨W.heap.size + 1,0,none⟩),.pointer (some ⟨W.heap.size + 2,0,none⟩),.pointer (some ⟨sb,0,none⟩),u6,u7,u8,u9,u10,u11,u12,u13,u14,u15,u16,u17,u18,u19,u20,u21,u22,u23,u24,u25,u26,u27,u28,u29,u30,u31,u32,u33,u34,u35,u36,u37,u38,u39,u40,u41,u42,u43,u44,u45,u46,u47,u48,u49,u50,u51,u52,u53,u54,u55,u56,u57,u58,u59,u60,u61,u62,u63,u64,u65,u66,u67,u68,u69,u70,u71,u72,u73,u74,u75,u76,u77,u78,u79,u80,u81,u82,u83,u84,u85,u86,u87,u88,u89,u90,u91,u92,u93,u94,u95,u96,u97,u98,u99,u100,u101,u102,u103,u104,u105,u106,u107,u108,u109,u110,u111,u112,u113,u114,u115,u116,u117,u118,u119,u120,u121,u122,u123,u124,u125,u126,u127,u128,u129,u130,u131,u132,u133,u134,u135,u136,u137,u138,u139,u140,u141,u142,u143,u144,u145,u146,u147,u148,u149,u150,u151,u152,u153,u154,u155,u156,u157,u158,u159,u160,u161,u162,u163,u164,u165,u166,u167,u168,u169,u170,u171,u172,u173,u174,u175,u176,u177,u178,u179,u180,u181,u182,u183,u184,u185,u186,u187,u188,u189,u190,u191,u192,u193,u194,u195,u196,u197,u198,u199,u200,u201,u202,u203,u204,u205,u206,u207,u208,u209,u210,u211,u212,u213,u214,u215,u216,u217,u218,u219,u220,u221,u222,u223,u224,u225,u226,u227,u228,u229,u230,u231,u232,u233,u234,u235,u236,u237,u238],[]⟩ X:=by
 conv=>arg 2;whnf
 have HQ:=hid hQ
 have HP:=hid hP
 clear hQ hP
 obtain ⟨s0,n0,q0,s1,n1,q1,s2,n2,q2,f0,f1,f2⟩:=hs.ones
 obtain ⟨t0,m0,r0,t1,m1,r1,t2,m2,r2,g0,g1,g2⟩:=h0.sets.ones
 have HR:=hid (fun i (hi : i < c.sites.length)=>hs.rowS hi)
 have e0 : n2 = c.sites.length:=by
  obtain ⟨a,cp,e,-⟩:=hs.o2
  rw [f2] at e
  exact (Value.slice.inj e).2.1
 have e1 : m2 = c.sites.length:=by
  obtain ⟨a,cp,e,-⟩:=h0.sets.o2
  rw [g2] at e
  exact (Value.slice.inj e).2.1
 subst f0;subst f1;subst f2;subst g0;subst g1;subst g2
 subst n2;subst m2
 have H0:=hid h0
 have HC:=hid hc
 have HLen:=hid hG
 have d1:=h0.b1.cell 2 rfl
 clear h0 hc hs hG
 go_wp2_with fail
 go_loopw [70] (fun t wr=>∃ (i : Nat) (R1 : List (List Nat)),t = .int .i64 i∧i≤c.sites.length∧Hid (Rnd W sb base top c (.slice s0 n0 q0) (.slice s1 n1 q1) (.slice s2 c.sites.length q2) (.slice t0 m0 r0) (.slice t1 m1 r1) (.slice t2 c.sites.length r2) R1 V1 B1 wr)∧Hid (Cpy R R1 (fun r j=>r < c.threads.length + 1 + i))) (fun t _=>c.sites.length - (intOf t).toNat)
 case atStart=>exact ⟨0,R0,rfl,by omega,H0,hid (HC.out.imp (fun r' j' hj h=>by omega))⟩
 case round =>
  obtain ⟨i,R1,rfl,hi,RR,CC⟩:=hrel
  obtain ⟨wo,rfl⟩ : ∃ wo : World,wo = wr:=⟨wr,rfl⟩
  clear H0 HC d1
  by_cases hin : i < c.sites.length
  ·obtain ⟨ob,oo,oc,a,cp,eo,-,-,hob0,hc0,-,hin0⟩:=HR.out i hin
   obtain ⟨rfl,-,rfl⟩:=Value.slice.inj eo
   have d1:=RR.out.b1.cell 2 rfl
   have d2:=(RR.out.bel.cell (p:=⟨ob,oo + i,none⟩) hob0).trans hc0
   have hob:=hid hob0
   have hcell:=hid hc0
   have HI:=hid hin0
   have hiI : (i : Int) < (c.sites.length : Int):=by omega
   have hll:=HLen.out (c.threads.length + 1 + i)
   have CC0:=hid (CC.out.imp (P':=fun r j=>r < c.threads.length + 1 + i∨(r = c.threads.length + 1 + i∧j < 0)) (fun r' j' hj h=>by omega))
   clear eo hob0 hc0 hin0
   generalize hlr : (R.getD (c.threads.length + 1 + i) []).length = li at *
   replace hlr:=hid hlr
   go_wp2_with fail
   go_loopw [79] (fun t wr=>∃ (k : Nat) (R1 : List (List Nat)),t = .int .i64 k∧k≤li∧Hid (Rnd W sb base top c (.slice s0 n0 q0) (.slice s1 n1 q1) (.slice (some ⟨ob,oo,none⟩) c.sites.length q2) (.slice t0 m0 r0) (.slice t1 m1 r1) (.slice t2 c.sites.length r2) R1 V1 B1 wr)∧Hid (Cpy R R1 (fun r j=>r < c.threads.length + 1 + i∨(r = c.threads.length + 1 + i∧j < k)))) (fun t _=>li - (intOf t).toNat)
   case atStart=>exact ⟨0,R1,rfl,by omega,RR,CC0⟩
   case round =>
    clear RR CC CC0 d1 d2
    obtain ⟨k,R2,rfl,hk,RR,CC⟩:=hrel
    by_cases hkn : k < li
    ·obtain ⟨rfl,hvs,hrd0⟩:=HI.out k hkn
     have hk1' : k < (R2.getD (c.threads.length + 1 + i) []).length:=by rw [CC.out.len,hlr.out];exact hkn
     obtain ⟨ob1,oo1,oc1,a1,cp1,eo1,o1,o2,o3,o4,o5,o6⟩:=RR.out.sets.rowS hin
     obtain ⟨rfl,-,rfl⟩:=Value.slice.inj eo1
     obtain ⟨rfl,hvv0,-⟩:=o6 k hk1'
     rw [CC.out.len,hlr.out] at o4
     have RD:=hid RR.out.drew
     have hvv:=hid (hvv0.kept (Below.refl _ _).drew)
     have hlt:=hid hvs.lt
     have hk1:=hid hk1'
     have hne:=hid (fun e=>o5 ⟨c.threads.length + 1 + i,fun q=>by rw [q] at hk1';simp at hk1',e⟩ : ob1 ≠ B1 (c.threads.length + 1 + i))
     have CN:=hid (CC.out.step (P':=fun r j=>r < c.threads.length + 1 + i∨(r = c.threads.length + 1 + i∧j < (k + 1))) hk1' (fun r' j' h=>by omega))
     have hrd:=hid hrd0
     have d1:=RD.out.bo.cell 2 rfl
     have d2:=((Below.refl wr.heap.size wr).drew.cell (p:=⟨ob1,oo1 + i,none⟩) o3).trans o4
     have d3:=RD.out.b1.cell 2 rfl
     have d4:=(RD.out.bel.cell (p:=⟨ob,oo + i,none⟩) hob.out).trans hcell.out
     have d5:=(RD.out.bel.cell (p:=⟨B (c.threads.length + 1 + i),k,none⟩) hlt.out).trans hrd0
     have hkI : (k : Int) < (li : Int):=by omega
     generalize gR R (c.threads.length + 1 + i) k = z at *
     clear hvs hvv0 hk1' HI RR CC hrd0 eo1 o1 o2 o3 o4 o5 o6 HR HQ HLen
     go_wp2_with fail
     refine wp_region_held_drew (S:=fun (w' : World)=>w'.cell? ⟨sb,2,none⟩ = some (.slice (some ⟨ob1,oo1,none⟩) c.sites.length r2)∧w'.cell? ⟨ob1,oo1 + i,none⟩ = some (.slice (some ⟨B1 (c.threads.length + 1 + i),0,none⟩) li cp1)∧w'.cell? ⟨W.heap.size + 1,2,none⟩ = some (.slice (some ⟨ob,oo,none⟩) c.sites.length q2)∧w'.cell? ⟨ob,oo + i,none⟩ = some (.slice (some ⟨B (c.threads.length + 1 + i),0,none⟩) li cp)∧w'.cell? ⟨B (c.threads.length + 1 + i),k,none⟩ = some (.int .u64 (z : Int))) (by kernel_rfl) (⟨d1,d2,d3,d4,d5⟩) (fun hHeld=>?_)
     refine wP 0 ⟨some 82,.fieldAddr 35 (.tmp 5) 2,0,"ref.go:84",#[],none⟩ HP hHeld ?_
     try simp only [Act.put,sA,sB,sC]
     refine wP 1 ⟨some 83,.load 32 (.tmp 82),32,"ref.go:84",#[⟨0,.data⟩],none⟩ HP hHeld ?_
     try simp only [Act.put,sA,sB,sC]
     refine wP 2 ⟨some 84,.move (.tmp 9),3,"ref.go:84",#[],none⟩ HP hHeld ?_
     try simp only [Act.put,sA,sB,sC]
     refine wP 3 ⟨some 85,.indexAddr 32 (.tmp 83) (.tmp 84),0,"ref.go:84",#[⟨1,.data⟩,⟨2,.data⟩],none⟩ HP hHeld ?_
     try simp only [Act.put,sA,sB,sC]
     refine wP 4 ⟨some 86,.load 33 (.tmp 85),33,"ref.go:84",#[⟨3,.data⟩],none⟩ HP hHeld ?_
     try simp only [Act.put,sA,sB,sC]
     refine wP 5 ⟨some 87,.move (.tmp 10),3,"ref.go:84",#[],none⟩ HP hHeld ?_
     try simp only [Act.put,sA,sB,sC]
     refine wP 6 ⟨some 88,.fieldAddr 35 (.tmp 3) 2,0,"ref.go:84",#[],none⟩ HP hHeld ?_
     try simp only [Act.put,sA,sB,sC]
     refine wP 7 ⟨some 89,.load 32 (.tmp 88),32,"ref.go:84",#[⟨6,.data⟩],none⟩ HP hHeld ?_
     try simp only [Act.put,sA,sB,sC]
     refine wP 8 ⟨some 90,.move (.tmp 9),3,"ref.go:84",#[],none⟩ HP hHeld ?_
     try simp only [Act.put,sA,sB,sC]
     refine wP 9 ⟨some 91,.indexAddr 32 (.tmp 89) (.tmp 90),0,"ref.go:84",#[⟨7,.data⟩,⟨8,.data⟩],none⟩ HP hHeld ?_
     try simp only [Act.put,sA,sB,sC]
     refine wP 10 ⟨some 92,.load 33 (.tmp 91),33,"ref.go:84",#[⟨9,.data⟩],none⟩ HP hHeld ?_
     try simp only [Act.put,sA,sB,sC]
     refine wP 11 ⟨some 93,.move (.tmp 10),3,"ref.go:84",#[],none⟩ HP hHeld ?_
     try simp only [Act.put,sA,sB,sC]
     refine wP 12 ⟨some 94,.indexAddr 33 (.tmp 92) (.tmp 93),0,"ref.go:84",#[⟨10,.data⟩,⟨11,.data⟩],none⟩ HP hHeld ?_
     try simp only [Act.put,sA,sB,sC]
     refine wP 13 ⟨some 95,.load 44 (.tmp 94),44,"ref.go:84",#[⟨12,.data⟩],none⟩ HP hHeld ?_
     try simp only [Act.put,sA,sB,sC]
     refine wP 14 ⟨some 96,.indexAddr 33 (.tmp 86) (.tmp 87),0,"ref.go:84",#[⟨4,.data⟩,⟨5,.data⟩,⟨0,.phase⟩,⟨1,.phase⟩,⟨2,.phase⟩,⟨3,.phase⟩,⟨4,.phase⟩,⟨5,.phase⟩,⟨6,.phase⟩,⟨7,.phase⟩,⟨8,.phase⟩,⟨9,.phase⟩,⟨10,.phase⟩,⟨11,.phase⟩,⟨12,.phase⟩,⟨13,.phase⟩],none⟩ HP hHeld ?_
     try simp only [Act.put,sA,sB,sC]
     refine wO 15 ⟨none,.store 44 (.tmp 96) (.tmp 95),0,"ref.go:84",#[⟨14,.data⟩,⟨13,.data⟩,⟨0,.phase⟩,⟨1,.phase⟩,⟨2,.phase⟩,⟨3,.phase⟩,⟨4,.phase⟩,⟨5,.phase⟩,⟨6,.phase⟩,⟨7,.phase⟩,⟨8,.phase⟩,⟨9,.phase⟩,⟨10,.phase⟩,⟨11,.phase⟩,⟨12,.phase⟩,⟨13,.phase⟩],none⟩ (fun K' hK'=>?_)
     refine step_store_cell 44 _ _ (by rfl) (by rfl) (B1 (c.threads.length + 1 + i)) k (by rfl) (.int .u64 (z : Int)) (by rfl) size44 rfl _ _ hvv.out (by rw [cellsN_len];exact hk1.out) ?_
     intro X1 hv ht
     have RS:=RD.out.stored hk1.out hv ht
     have hz:=hid (show X1.cell? ⟨sb,2,none⟩ = some (.slice (some ⟨ob1,oo1,none⟩) c.sites.length r2)∧X1.cell? ⟨ob1,oo1 + i,none⟩ = some (.slice (some ⟨B1 (c.threads.length + 1 + i),0,none⟩) li cp1)∧X1.cell? ⟨W.heap.size + 1,2,none⟩ = some (.slice (some ⟨ob,oo,none⟩) c.sites.length q2)∧X1.cell? ⟨ob,oo + i,none⟩ = some (.slice (some ⟨B (c.threads.length + 1 + i),0,none⟩) li cp)∧X1.cell? ⟨B (c.threads.length + 1 + i),k,none⟩ = some (.int .u64 (z : Int)) from ⟨RS.bo.cell 2 rfl,(World.cell?_of_block (ht.block ob1 hne.out)).trans d2,RS.b1.cell 2 rfl,(RS.bel.cell (p:=⟨ob,oo + i,none⟩) hob.out).trans hcell.out,(RS.bel.cell (p:=⟨B (c.threads.length + 1 + i),k,none⟩) hlt.out).trans hrd.out⟩)
     replace RS:=hid RS
     clear hv ht
     refine hK'.out _ _ hz.out (fun hHeld=>?_)
     clear hK' K'
     try simp only [Act.put,sA,sB,sC]
     refine wpAnyH_done (by kernel_rfl) ?_ _
     clear hHeld
     go_wp2_with fail
     go_roundw
     case rel=>exact ⟨k + 1,_,by go_num,by omega,RS,CN⟩
     case measure=>simp [intOf];omega
    ·have e : k = li:=by omega
     subst e
     have CN:=hid (CC.out.imp (P':=fun r j=>r < c.threads.length + 1 + (i + 1)) (fun r j hj h=>by
      by_cases e : r = c.threads.length + 1 + i
      ·rw [e,hlr.out] at hj
       omega
      ·omega))
     clear HI CC HR HQ
     go_wp2_with fail
     go_roundw
     case rel=>exact ⟨i + 1,_,by go_num,by omega,RR,CN⟩
     case measure=>simp [intOf];omega
  ·have e : i = c.sites.length:=by omega
   subst e
   have CN:=hid (CC.out.imp (P':=fun r _=>r < c.threads.length + 1 + c.sites.length) (fun r j hj h=>by omega))
   clear HR CC
   go_wp2_with fail
   exact HQ.out _ _ _ _ _ _ _ _ _ _ _ _ _ _ _ _ _ _ _ _ _ _ _ _ _ _ _ _ _ _ _ _ _ _ _ _ RR.out CN.out
end Go.Proofs.YtkdpcaoocmbbhaaDoor
