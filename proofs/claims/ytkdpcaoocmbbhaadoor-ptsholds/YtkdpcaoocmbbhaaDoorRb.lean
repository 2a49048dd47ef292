/- Round: its pieces; the globals copied. -/
import Derived.Test.YtkdpcaoocmbbhaaDoorWt
import Derived.Test.YtkdpcaoocmbbhaaDoorM13
namespace Go.Proofs.YtkdpcaoocmbbhaaDoor
open Go.ChangeShapes Go.WideShapes Go.ChangeAt Go.RowKit Go.Deep
set_option linter.unusedVariables false
set_option linter.unusedSimpArgs false

def lft : Code→Code
 | .seq a _=>a
 | c=>c
def rgt : Code→Code
 | .seq _ b=>b
 | c=>c
def inb : Code→Code
 | .block _ c=>c
 | .loop c=>c
 | .cond _ a _=>a
 | c=>c

theorem size44 : (Tryd.prog.info? 44).map (·.size) = some 1:=by kernel_rfl
set_option maxRecDepth 1000000 in
set_option maxHeartbeats 4000000 in
theorem copyG {W : World} {sb base top base0 top0 : Nat} {c : Cd} {v0 v1 v2 w0 w1 w2 : Value} {R R0 : List (List Nat)} {V V1 : Nat→Value} {B B1 : Nat→Nat} (hs : SetsM W base0 top0 c.threads.length c.sites.length v0 v1 v2 R V B) (hG : (R.getD c.threads.length []).length≤1000) {u0 u1 u6 u7 u8 u9 u10 u11 u12 u13 u14 u15 u16 u17 u18 u19 u20 u21 u22 u23 u24 u25 u26 u27 u28 u29 u30 u31 u32 u33 u34 u35 u36 u37 u38 u39 u40 u41 u42 u43 u44 u45 u46 u47 u48 u49 u50 u51 u52 u53 u54 u55 u56 u57 u58 u59 u60 u61 u62 u63 u64 u65 u66 u67 u68 u69 u70 u71 u72 u73 u74 u75 u76 u77 u78 u79 u80 u81 u82 u83 u84 u85 u86 u87 u88 u89 u90 u91 u92 u93 u94 u95 u96 u97 u98 u99 u100 u101 u102 u103 u104 u105 u106 u107 u108 u109 u110 u111 u112 u113 u114 u115 u116 u117 u118 u119 u120 u121 u122 u123 u124 u125 u126 u127 u128 u129 u130 u131 u132 u133 u134 u135 u136 u137 u138 u139 u140 u141 u142 u143 u144 u145 u146 u147 u148 u149 u150 u151 u152 u153 u154 u155 u156 u157 u158 u159 u160 u161 u162 u163 u164 u165 u166 u167 u168 u169 u170 u171 u172 u173 u174 u175 u176 u177 u178 u179 u180 u181 u182 u183 u184 u185 u186 u187 u188 u189 u190 u191 u192 u193 u194 u195 u196 u197 u198 u199 u200 u201 u202 u203 u204 u205 u206 u207 u208 u209 u210 u211 u212 u213 u214 u215 u216 u217 u218 u219 u220 u221 u222 u223 u224 u225 u226 u227 u228 u229 u230 u231 u232 u233 u234 u235 u236 u237 u238 : Value} {X : World}
  (h0 : Rnd W sb base top c v0 v1 v2 w0 w1 w2 R0 V1 B1 X) (hc : Cpy R R0 (fun _ _=>False)) {Q : Exit→Act→World→Prop} (hP : ∀ c (a : Act) i v w,Q (.panic c) (a.put i v) w→Q (.panic c) a w)
  (hQ : ∀ (u6 u19 u20 u21 u22 u23 u24 u25 u26 u27 u28 u29 u30 u31 u32 u33 u34 : Value) (R1 : List (List Nat)) (X1 : World),Rnd W sb base top c v0 v1 v2 w0 w1 w2 R1 V1 B1 X1→Cpy R R1 (fun r _=>r = c.threads.length)→Q .normal ⟨#[u0,u1,.pointer (some ⟨W.heap.size,0,none⟩),.pointer (some ⟨W.heap.size + 1,0,none⟩),.pointer (some ⟨W.heap.size + 2,0,none⟩),.pointer (some ⟨sb,0,none⟩),u6,u7,u8,u9,u10,u11,u12,u13,u14,u15,u16,u17,u18,u19,u20,u21,u22,u23,u24,u25,u26,u27,u28,u29,u30,u31,u32,u33,u34,u35,u36,u37,u38,u39,u40,u41,u42,u43,u44,u45,u46,u47,u48,u49,u50,u51,u52,u53,u54,u55,u56,u57,u58,u59,u60,u61,u62,u63,u64,u65,u66,u67,u68,u69,u70,u71,u72,u73,u74,u75,u76,u77,u78,u79,u80,u81,u82,u83,u84,u85,u86,u87,u88,u89,u90,u91,u92,u93,u94,u95,u96,u97,u98,u99,u100,u101,u102,u103,u104,u105,u106,u107,u108,u109,u110,u111,u112,u113,u114,u115,u116,u117,u118,u119,u120,u121,u122,u123,u124,u125,u126,u127,u128,u129,u130,u131,u132,u133,u134,u135,u136,u137,u138,u139,u140,u141,u142,u143,u144,u145,u146,u147,u148,u149,u150,u151,u152,u153,u154,u155,u156,u157,u158,u159,u160,u161,u162,u163,u164,u165,u166,u167,u168,u169,u170,u171,u172,u173,u174,u175,u176,u177,u178,u179,u180,u181,u182,u183,u184,u185,u186,u187,u188,u189,u190,u191,u192,u193,u194,u195,u196,u197,u198,u199,u200,u201,u202,u203,u204,u205,u206,u207,u208,u209,u210,u211,u212,u213,u214,u215,u216,u217,u218,u219,u220,u221,u222,u223,u224,u225,u226,u227,u228,u229,u230,u231,u232,u233,u234,u235,u236,u237,u238],[]⟩ X1) :
  Code.wp Tryd.prog (lft (rgt (rgt (Tryd.f14.body.getD .skip)))) Q ⟨#[u0,u1,.pointer (some ⟨W.heap.size,0,none⟩),.pointer (some ⟨W.heap.size + 1,0,none⟩),.pointer (some ⟨W.heap.size + 2,0,none⟩),.pointer (some ⟨sb,0,none⟩),u6,u7,u8,u9,u10,u11,u12,u13,u14,u15,u16,u17,u18,u19,u20,u21,u22,u23,u24,u25,u26,u27,u28,u29,u30,u31,u32,u33,u34,u35,u36,u37,u38,u39,u40,u41,u42,u43,u44,u45,u46,u47,u48,u49,u50,u51,u52,u53,u54,u55,u56,u57,u58,u59,u60,u61,u62,u63,u64,u65,u66,u67,u68,u69,u70,u71,u72,u73,u74,u75,u76,u77,u78,u79,u80,u81,u82,u83,u84,u85,u86,u87,u88,u89,u90,u91,u92,u93,u94,u95,u96,u97,u98,u99,u100,u101,u102,u103,u104,u105,u106,u107,u108,u109,u110,u111,u112,u113,u114,u115,u116,u117,u118,u119,u120,u121,u122,u123,u124,u125,u126,u127,u128,u129,u130,u131,u132,u133,u134,u135,u136,u137,u138,u139,u140,u141,u142,u143,u144,u145,u146,u147,u148,u149,u150,u151,u152,u153,u154,u155,u156,u157,u158,u159,u160,u161,u162,u163,u164,u165,u166,u167,u168,u169,u170,u171,u172,u173,u174,u175,u176,u177,u178,u179,u180,u181,u182,u183,u184,u185,u186,u187,u188,u189,u190,u191,u192,u193,u194,u195,u196,u197,u198,u199,u200,u201,u202,u203,u204,u205,u206,u207,u208,u209,u210,u211,u212,u213,u214,u215,u216,u217,u218,u219,u220,u221,u222,u223,u224,u225,u226,u227,u228,u229,u230,u231,u232,u233,u234,u235,u236,u237,u238],[]⟩ X:=by
 conv=>arg 2;whnf
 have HQ:=hid hQ
 have HP:=hid hP
 clear hQ hP
 obtain ⟨ga,gc,rfl,hgl⟩:=hs.rowGl
 obtain ⟨s0,n0,q0,-,-,-,s2,n2,q2,rfl,-,rfl⟩:=hs.ones
 have HGL:=hid hgl
 generalize hgn : (R.getD c.threads.length []).length = gl at *
 have H0:=hid h0
 have HC:=hid hc
 have d1:=h0.b1.cell 1 rfl
 clear hgl h0 hc hs
 replace hgn:=hid hgn
 go_wp2_with fail
 go_loopw [22] (fun t wr=>∃ (k : Nat) (R1 : List (List Nat)),t = .int .i64 k∧k≤gl∧Hid (Rnd W sb base top c (.slice s0 n0 q0) (.slice ga gl gc) (.slice s2 n2 q2) w0 w1 w2 R1 V1 B1 wr)∧Hid (Cpy R R1 (fun r j=>r = c.threads.length∧j < k))) (fun t _=>gl - (intOf t).toNat)
 case atStart=>exact ⟨0,R0,rfl,by omega,H0,hid (HC.out.imp (fun _ _ _ h=>by omega))⟩
 case round =>
  obtain ⟨k,R1,rfl,hk,RR,CC⟩:=hrel
  clear H0 HC d1
  by_cases hkn : k < gl
  ·obtain ⟨rfl,hvs,hrd0⟩:=HGL.out k hkn
   have hk1' : k < (R1.getD c.threads.length []).length:=by rw [CC.out.len,hgn.out];exact hkn
   obtain ⟨g1c,e1,hvv0⟩:=RR.out.rowG hk1'
   rw [CC.out.len,hgn.out] at e1
   subst e1
   have RD:=hid RR.out.drew
   have hvv:=hid (hvv0.kept (Below.refl _ _).drew)
   have hlt:=hid hvs.lt
   have hk1:=hid hk1'
   have CN:=hid (CC.out.step (P':=fun r j=>r = c.threads.length∧j < k + 1) hk1' (fun r' j' h=>by omega))
   have hrd:=hid hrd0
   have d1:=RD.out.bo.cell 1 rfl
   have d2:=RD.out.b1.cell 1 rfl
   have d3:=(RD.out.bel.cell (p:=⟨B c.threads.length,k,none⟩) hlt.out).trans hrd0
   have hkI : (k : Int) < (gl : Int):=by omega
   generalize gR R c.threads.length k = z at *
   clear hvs hvv0 hk1' HGL RR CC hrd0
   go_wp2_with fail
   refine wp_region_held_drew (S:=fun (w' : World)=>w'.cell? ⟨sb,1,none⟩ = some (.slice (some ⟨B1 c.threads.length,0,none⟩) gl g1c)∧w'.cell? ⟨W.heap.size + 1,1,none⟩ = some (.slice (some ⟨B c.threads.length,0,none⟩) gl gc)∧w'.cell? ⟨B c.threads.length,k,none⟩ = some (.int .u64 (z : Int))) (by kernel_rfl) (⟨d1,d2,d3⟩) (fun hHeld=>?_)
   refine wP 0 ⟨some 25,.fieldAddr 35 (.tmp 5) 1,0,"ref.go:75",#[],none⟩ HP hHeld ?_
   try simp only [Act.put,sA,sB,sC]
   refine wP 1 ⟨some 26,.load 33 (.tmp 25),33,"ref.go:75",#[⟨0,.data⟩],none⟩ HP hHeld ?_
   try simp only [Act.put,sA,sB,sC]
   refine wP 2 ⟨some 27,.move (.tmp 6),3,"ref.go:75",#[],none⟩ HP hHeld ?_
   try simp only [Act.put,sA,sB,sC]
   refine wP 3 ⟨some 28,.fieldAddr 35 (.tmp 3) 1,0,"ref.go:75",#[],none⟩ HP hHeld ?_
   try simp only [Act.put,sA,sB,sC]
   refine wP 4 ⟨some 29,.load 33 (.tmp 28),33,"ref.go:75",#[⟨3,.data⟩],none⟩ HP hHeld ?_
   try simp only [Act.put,sA,sB,sC]
   refine wP 5 ⟨some 30,.move (.tmp 6),3,"ref.go:75",#[],none⟩ HP hHeld ?_
   try simp only [Act.put,sA,sB,sC]
   refine wP 6 ⟨some 31,.indexAddr 33 (.tmp 29) (.tmp 30),0,"ref.go:75",#[⟨4,.data⟩,⟨5,.data⟩],none⟩ HP hHeld ?_
   try simp only [Act.put,sA,sB,sC]
   refine wP 7 ⟨some 32,.load 44 (.tmp 31),44,"ref.go:75",#[⟨6,.data⟩],none⟩ HP hHeld ?_
   try simp only [Act.put,sA,sB,sC]
   refine wP 8 ⟨some 33,.indexAddr 33 (.tmp 26) (.tmp 27),0,"ref.go:75",#[⟨1,.data⟩,⟨2,.data⟩,⟨0,.phase⟩,⟨1,.phase⟩,⟨2,.phase⟩,⟨3,.phase⟩,⟨4,.phase⟩,⟨5,.phase⟩,⟨6,.phase⟩,⟨7,.phase⟩],none⟩ HP hHeld ?_
   try simp only [Act.put,sA,sB,sC]
   refine wO 9 ⟨none,.store 44 (.tmp 33) (.tmp 32),0,"ref.go:75",#[⟨8,.data⟩,⟨7,.data⟩,⟨0,.phase⟩,⟨1,.phase⟩,⟨2,.phase⟩,⟨3,.phase⟩,⟨4,.phase⟩,⟨5,.phase⟩,⟨6,.phase⟩,⟨7,.phase⟩],none⟩ (fun K' hK'=>?_)
   refine step_store_cell 44 _ _ (by rfl) (by rfl) (B1 c.threads.length) k (by rfl) (.int .u64 (z : Int)) (by rfl) size44 rfl _ _ hvv.out (by rw [cellsN_len];exact hk1.out) ?_
   intro X1 hv ht
   have RS:=RD.out.stored hk1.out hv ht
   have hz:=hid (show X1.cell? ⟨sb,1,none⟩ = some (.slice (some ⟨B1 c.threads.length,0,none⟩) gl g1c)∧X1.cell? ⟨W.heap.size + 1,1,none⟩ = some (.slice (some ⟨B c.threads.length,0,none⟩) gl gc)∧X1.cell? ⟨B c.threads.length,k,none⟩ = some (.int .u64 (z : Int)) from ⟨RS.bo.cell 1 rfl,RS.b1.cell 1 rfl,(RS.bel.cell (p:=⟨B c.threads.length,k,none⟩) hlt.out).trans hrd.out⟩)
   replace RS:=hid RS
   clear hv ht
   refine hK'.out _ _ hz.out (fun hHeld=>?_)
   clear hK' K'
   try simp only [Act.put,sA,sB,sC]
   refine wpAnyH_done (by kernel_rfl) ?_ _
   clear hHeld
   go_wp2_with fail
   go_roundw
   case rel=>exact ⟨k + 1,_,by go_num,by omega,RS,CN⟩
   case measure=>simp [intOf];omega
  ·have e : k = gl:=by omega
   subst e
   have CN:=hid (CC.out.imp (P':=fun r _=>r = c.threads.length) (fun r j hj h=>by
    refine ⟨h,?_⟩
    rw [h,hgn.out] at hj
    exact hj))
   clear HGL CC
   go_wp2_with fail
   exact HQ.out _ _ _ _ _ _ _ _ _ _ _ _ _ _ _ _ _ _ _ RR.out CN.out
end Go.Proofs.YtkdpcaoocmbbhaaDoor
