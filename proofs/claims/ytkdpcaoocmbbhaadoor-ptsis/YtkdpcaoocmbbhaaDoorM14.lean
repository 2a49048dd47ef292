/- Pd, Pg -/
import Derived.Test.YtkdpcaoocmbbhaaDoorWt
import Derived.Test.YtkdpcaoocmbbhaaDoorRc
/- Round: what comes to a Dst. -/
namespace Go.Proofs.YtkdpcaoocmbbhaaDoor
open Go.ChangeShapes Go.WideShapes Go.ChangeAt Go.RowKit Go.Deep
set_option linter.unusedVariables false
set_option linter.unusedSimpArgs false

theorem xcells (x : Ins) : x.cells = [.int .i64 x.op,.int .i64 x.dst,.int .i64 x.src,.int .i64 x.rc,.int .i64 x.n,.int .i64 x.to,x.iv,x.xv]:=rfl
theorem Rnd.varAt {W : World} {sb base top : Nat} {c : Cd} {v0 v1 v2 u0 u1 u2 : Value} {R1 : List (List Nat)} {V1 : Nat→Value} {B1 : Nat→Nat} {X : World} (h : Rnd W sb base top c v0 v1 v2 u0 u1 u2 R1 V1 B1 X) {r j : Nat} (hj : j < (R1.getD r []).length) : VarAt X (B1 r) (cellsN (R1.getD r [])) 44:=by
 obtain ⟨_,_,k,_⟩:=h.sets.at hj
 exact k
set_option maxRecDepth 1000000 in
set_option maxHeartbeats 4000000 in
theorem pieceD {W : World} {sb base top base0 top0 : Nat} {c : Cd} {v0 v1 v2 w0 w1 w2 : Value} {R R1 : List (List Nat)} {V V1 : Nat→Value} {B B1 : Nat→Nat} (hc : c.okW W) (g : GoodP c) (hs : SetsM W base0 top0 c.threads.length c.sites.length v0 v1 v2 R V B) (hL : Low c R) (hL1 : Low c R1) {i k : Nat} {b : Bd} {x : Ins} (hb : c.threads[i]? = some b) (hx : b.code[k]? = some x) {ib : Nat} {u0 u1 u6 u7 u8 u9 u10 u12 u13 u15 u16 u17 u18 u19 u20 u21 u22 u23 u24 u25 u26 u27 u28 u29 u30 u31 u32 u33 u34 u35 u36 u37 u38 u39 u40 u41 u42 u43 u44 u45 u46 u47 u48 u49 u50 u51 u52 u53 u54 u55 u56 u57 u58 u59 u60 u61 u62 u63 u64 u65 u66 u67 u68 u69 u70 u71 u72 u73 u74 u75 u76 u77 u78 u79 u80 u81 u82 u83 u84 u85 u86 u87 u88 u89 u90 u91 u92 u93 u94 u95 u96 u97 u98 u99 u100 u101 u102 u103 u104 u105 u106 u107 u108 u109 u110 u111 u112 u113 u114 u115 u116 u117 u118 u119 u120 u121 u122 u123 u124 u125 u126 u127 u128 u129 u130 u131 u132 u133 u134 u135 u136 u137 u138 u139 u140 u141 u142 u143 u144 u145 u146 u147 u148 u149 u150 u151 u152 u153 u154 u155 u156 u157 u158 u159 u160 u161 u162 u163 u164 u165 u166 u167 u168 u169 u170 u171 u172 u173 u174 u175 u176 u177 u178 u179 u180 u181 u182 u183 u184 u185 u186 u187 u188 u189 u190 u191 u192 u193 u194 u195 u196 u197 u198 u199 u200 u201 u202 u203 u204 u205 u206 u207 u208 u209 u210 u211 u212 u213 u214 u215 u216 u217 u218 u219 u220 u221 u222 u223 u224 u225 u226 u227 u228 u229 u230 u231 u232 u233 u234 u235 u236 u237 u238 : Value} {X : World}
  (h0 : Rnd W sb base top c v0 v1 v2 w0 w1 w2 R1 V1 B1 X) (hi : VarAt X ib x.cells 50) (hib : sb < ib) {Q : Exit→Act→World→Prop} (hP : ∀ c (a : Act) i v w,Q (.panic c) (a.put i v) w→Q (.panic c) a w)
  (hQ : ∀ (u114 u115 u116 u117 u118 u119 u120 u121 u122 u123 u124 u125 u126 u127 u128 u129 u130 u131 u132 u133 u134 u135 u136 u137 u138 u139 u140 : Value) (X1 : World),Rnd W sb base top c v0 v1 v2 w0 w1 w2 (if dstB b x = true then bringR R1 i x.dst.toNat (brM c R i x) else R1) V1 B1 X1→VarAt X1 ib x.cells 50→Q .normal ⟨#[u0,u1,.pointer (some ⟨W.heap.size,0,none⟩),.pointer (some ⟨W.heap.size + 1,0,none⟩),.pointer (some ⟨W.heap.size + 2,0,none⟩),.pointer (some ⟨sb,0,none⟩),u6,u7,u8,u9,u10,.int .i64 (i : Int),u12,u13,.pointer (some ⟨ib,0,none⟩),u15,u16,u17,u18,u19,u20,u21,u22,u23,u24,u25,u26,u27,u28,u29,u30,u31,u32,u33,u34,u35,u36,u37,u38,u39,u40,u41,u42,u43,u44,u45,u46,u47,u48,u49,u50,u51,u52,u53,u54,u55,u56,u57,u58,u59,u60,u61,u62,u63,u64,u65,u66,u67,u68,u69,u70,u71,u72,u73,u74,u75,u76,u77,u78,u79,u80,u81,u82,u83,u84,u85,u86,u87,u88,u89,u90,u91,u92,u93,u94,u95,u96,u97,u98,u99,u100,u101,u102,u103,u104,u105,u106,u107,u108,u109,u110,u111,u112,u113,u114,u115,u116,u117,u118,u119,u120,u121,u122,u123,u124,u125,u126,u127,u128,u129,u130,u131,u132,u133,u134,u135,u136,u137,u138,u139,u140,u141,u142,u143,u144,u145,u146,u147,u148,u149,u150,u151,u152,u153,u154,u155,u156,u157,u158,u159,u160,u161,u162,u163,u164,u165,u166,u167,u168,u169,u170,u171,u172,u173,u174,u175,u176,u177,u178,u179,u180,u181,u182,u183,u184,u185,u186,u187,u188,u189,u190,u191,u192,u193,u194,u195,u196,u197,u198,u199,u200,u201,u202,u203,u204,u205,u206,u207,u208,u209,u210,u211,u212,u213,u214,u215,u216,u217,u218,u219,u220,u221,u222,u223,u224,u225,u226,u227,u228,u229,u230,u231,u232,u233,u234,u235,u236,u237,u238],[]⟩ X1) :
  Code.wp Tryd.prog (lft (rgt (inb (lft (rgt (rgt (inb (inb (rgt (rgt (inb (lft (rgt (rgt (inb (inb (rgt (lft (rgt (rgt (rgt (rgt (rgt (Tryd.f14.body.getD .skip)))))))))))))))))))))))) Q ⟨#[u0,u1,.pointer (some ⟨W.heap.size,0,none⟩),.pointer (some ⟨W.heap.size + 1,0,none⟩),.pointer (some ⟨W.heap.size + 2,0,none⟩),.pointer (some ⟨sb,0,none⟩),u6,u7,u8,u9,u10,.int .i64 (i : Int),u12,u13,.pointer (some ⟨ib,0,none⟩),u15,u16,u17,u18,u19,u20,u21,u22,u23,u24,u25,u26,u27,u28,u29,u30,u31,u32,u33,u34,u35,u36,u37,u38,u39,u40,u41,u42,u43,u44,u45,u46,u47,u48,u49,u50,u51,u52,u53,u54,u55,u56,u57,u58,u59,u60,u61,u62,u63,u64,u65,u66,u67,u68,u69,u70,u71,u72,u73,u74,u75,u76,u77,u78,u79,u80,u81,u82,u83,u84,u85,u86,u87,u88,u89,u90,u91,u92,u93,u94,u95,u96,u97,u98,u99,u100,u101,u102,u103,u104,u105,u106,u107,u108,u109,u110,u111,u112,u113,u114,u115,u116,u117,u118,u119,u120,u121,u122,u123,u124,u125,u126,u127,u128,u129,u130,u131,u132,u133,u134,u135,u136,u137,u138,u139,u140,u141,u142,u143,u144,u145,u146,u147,u148,u149,u150,u151,u152,u153,u154,u155,u156,u157,u158,u159,u160,u161,u162,u163,u164,u165,u166,u167,u168,u169,u170,u171,u172,u173,u174,u175,u176,u177,u178,u179,u180,u181,u182,u183,u184,u185,u186,u187,u188,u189,u190,u191,u192,u193,u194,u195,u196,u197,u198,u199,u200,u201,u202,u203,u204,u205,u206,u207,u208,u209,u210,u211,u212,u213,u214,u215,u216,u217,u218,u219,u220,u221,u222,u223,u224,u225,u226,u227,u228,u229,u230,u231,u232,u233,u234,u235,u236,u237,u238],[]⟩ X:=by
 conv=>arg 2;whnf
 have HQ:=hid hQ
 have HP:=hid hP
 clear hQ hP
 have CD:=hid (fun Y (hY : Below W.heap.size W Y)=>dst_any c i k b x Y (Cd.kept hc hY) g hb hx)
 have RD:=hid h0
 have VI:=hid hi
 have e0:=h0.b0.cell 0 rfl
 have e1:=h0.b0.cell 1 rfl
 have e2:=h0.b0.cell 2 rfl
 have e3:=h0.b0.cell 3 rfl
 have e4:=h0.b0.cell 4 rfl
 simp only [xcells,Cd.cells] at CD
 rw [xcells] at hi
 have x0:=hi.cell 0 rfl
 have x1:=hi.cell 1 rfl
 have x2:=hi.cell 2 rfl
 have x3:=hi.cell 3 rfl
 have x4:=hi.cell 4 rfl
 have x5:=hi.cell 5 rfl
 have x6:=hi.cell 6 rfl
 have x7:=hi.cell 7 rfl
 by_cases hd : dstB b x = true
 ·have CB:=hid (fun Y (hY : Below W.heap.size W Y)=>brings_any (Cd.kept hc hY) g (hs.kept hY) hL hb hx hd)
  obtain ⟨-,-,hD⟩:=dst_cases g hb hx hd
  have F:=ins_facts g hb hx
  obtain ⟨d,hdd,hdl⟩:=F.d hD
  have hit:=(List.getElem?_eq_some_iff.1 hb).1
  have hk1' : d < (R1.getD i []).length:=by rw [row_at hL1,shape_slots c hb];exact hdl
  have U1:=hL1.allU g
  have hm:=brM_lt g hb hx hd (hL.allU g) (by have:=g.l4;omega)
  have e5:=or64 (U1 i d) hm
  rw [if_pos hd,hdd,Int.toNat_natCast] at HQ
  simp only [xcells,Cd.cells] at CB
  rw [hdd] at CB CD x1
  obtain ⟨ob1,oo1,oc1,a1,cp1,rfl,o1,o2,o3,o4,o5,o6⟩:=h0.sets.rowT hit
  obtain ⟨rfl,hvv,hcz⟩:=o6 d hk1'
  have hne:=hid (fun e=>o5 ⟨i,fun q=>by rw [q] at hk1';simp at hk1',e⟩ : ob1 ≠ B1 i)
  have OC:=hid o4
  replace VI:=hid (show VarAt X ib [.int .i64 x.op,.int .i64 (d : Int),.int .i64 x.src,.int .i64 x.rc,.int .i64 x.n,.int .i64 x.to,x.iv,x.xv] 50 from by rw [hdd] at hi;exact hi)
  simp only [bringR] at HQ
  have hk1:=hid hk1'
  have hne2:=hid (show ib ≠ B1 i from by have:=(h0.sets.at hk1').choose_spec.2.2.2.1;have:=h0.ab;omega)
  replace hdd:=hid hdd
  have hdI : (d : Int) < ((R1.getD i []).length : Int):=by omega
  have hiI : (i : Int) < (c.threads.length : Int):=by omega
  have dq : dstB b x = true:=hd
  rw [dq] at CD
  generalize hzz : gR R1 i d = z at *
  generalize hmm : brM c R i x = m at *
  generalize hll : (R1.getD i []).length = li at *
  replace hll:=hid hll
  have hk2 : Hid (d < (R1.getD i []).length):=hid (by rw [hll.out];exact hk1.out)
  have hczz:=hcz
  clear F hD hdl hk1' U1 hm hcz hvv o1 o2 o3 o4 o5 o6 h0 hi hc g hs hL hL1 hb hx hd hit hzz hmm dq
  have dz:=hczz
  go_wp2_with (go_at_call 28;refine Calls.mono (CD.out _ RD.out.bel) ?_;rintro _ y0 ⟨rfl,hk⟩;replace dz:=(hk.cell (World.block_lt_of_cell? _ _ dz)).trans dz;replace OC:=hid ((hk.cell (World.block_lt_of_cell? _ _ OC.out)).trans OC.out);replace RD:=hid (RD.out.kept hk);replace VI:=hid (VI.out.kept hk);clear hk CD e0 e1 e2 e3 e4 x0 x1 x2 x3 x4 x5 x6 x7)
  replace RD:=hid RD.out.drew
  replace VI:=hid (VI.out.kept (Below.refl _ _).drew)
  replace OC:=hid ((Below.refl _ _).drew.cell (World.block_lt_of_cell? _ _ OC.out) |>.trans OC.out)
  replace dz:=((Below.refl _ _).drew.cell (World.block_lt_of_cell? _ _ dz)).trans dz
  refine wp_region_held_drew (S:=fun (w' : World)=>w'.cell? ⟨sb,0,none⟩ = some (.slice (some ⟨ob1,oo1,none⟩) c.threads.length oc1)∧w'.cell? ⟨ob1,oo1 + i,none⟩ = some (.slice (some ⟨B1 i,0,none⟩) li cp1)∧w'.cell? ⟨ib,0,none⟩ = some (.int .i64 x.op)∧w'.cell? ⟨ib,1,none⟩ = some (.int .i64 (d : Int))∧w'.cell? ⟨ib,2,none⟩ = some (.int .i64 x.src)∧w'.cell? ⟨ib,3,none⟩ = some (.int .i64 x.rc)∧w'.cell? ⟨ib,4,none⟩ = some (.int .i64 x.n)∧w'.cell? ⟨ib,5,none⟩ = some (.int .i64 x.to)∧w'.cell? ⟨ib,6,none⟩ = some (x.iv)∧w'.cell? ⟨ib,7,none⟩ = some (x.xv)∧w'.cell? ⟨W.heap.size,0,none⟩ = some (c.rv)∧w'.cell? ⟨W.heap.size,1,none⟩ = some (c.gv)∧w'.cell? ⟨W.heap.size,2,none⟩ = some (c.tv)∧w'.cell? ⟨W.heap.size,3,none⟩ = some (c.ev)∧w'.cell? ⟨W.heap.size,4,none⟩ = some (c.cv)∧w'.cell? ⟨W.heap.size + 1,0,none⟩ = some (v0)∧w'.cell? ⟨W.heap.size + 1,1,none⟩ = some (v1)∧w'.cell? ⟨W.heap.size + 1,2,none⟩ = some (v2)) (by kernel_rfl) (⟨RD.out.bo.cell 0 rfl,OC.out,VI.out.cell 0 rfl,VI.out.cell 1 rfl,VI.out.cell 2 rfl,VI.out.cell 3 rfl,VI.out.cell 4 rfl,VI.out.cell 5 rfl,VI.out.cell 6 rfl,VI.out.cell 7 rfl,RD.out.b0.cell 0 rfl,RD.out.b0.cell 1 rfl,RD.out.b0.cell 2 rfl,RD.out.b0.cell 3 rfl,RD.out.b0.cell 4 rfl,RD.out.b1.cell 0 rfl,RD.out.b1.cell 1 rfl,RD.out.b1.cell 2 rfl⟩) (fun hHeld=>?_)
  refine wP 0 ⟨some 118,.fieldAddr 35 (.tmp 5) 0,0,"ref.go:90",#[],none⟩ HP hHeld ?_
  try simp only [Act.put,sA,sB,sC]
  refine wP 1 ⟨some 119,.load 32 (.tmp 118),32,"ref.go:90",#[⟨0,.data⟩],none⟩ HP hHeld ?_
  try simp only [Act.put,sA,sB,sC]
  refine wP 2 ⟨some 120,.move (.tmp 11),3,"ref.go:90",#[],none⟩ HP hHeld ?_
  try simp only [Act.put,sA,sB,sC]
  refine wP 3 ⟨some 121,.indexAddr 32 (.tmp 119) (.tmp 120),0,"ref.go:90",#[⟨1,.data⟩,⟨2,.data⟩],none⟩ HP hHeld ?_
  try simp only [Act.put,sA,sB,sC]
  refine wP 4 ⟨some 122,.load 33 (.tmp 121),33,"ref.go:90",#[⟨3,.data⟩],none⟩ HP hHeld ?_
  try simp only [Act.put,sA,sB,sC]
  refine wP 5 ⟨some 123,.fieldAddr 50 (.tmp 14) 1,0,"ref.go:90",#[],none⟩ HP hHeld ?_
  try simp only [Act.put,sA,sB,sC]
  refine wP 6 ⟨some 124,.load 3 (.tmp 123),3,"ref.go:90",#[⟨5,.data⟩],none⟩ HP hHeld ?_
  try simp only [Act.put,sA,sB,sC]
  refine wP 7 ⟨some 125,.fieldAddr 35 (.tmp 5) 0,0,"ref.go:90",#[],none⟩ HP hHeld ?_
  try simp only [Act.put,sA,sB,sC]
  refine wP 8 ⟨some 126,.load 32 (.tmp 125),32,"ref.go:90",#[⟨7,.data⟩],none⟩ HP hHeld ?_
  try simp only [Act.put,sA,sB,sC]
  refine wP 9 ⟨some 127,.move (.tmp 11),3,"ref.go:90",#[],none⟩ HP hHeld ?_
  try simp only [Act.put,sA,sB,sC]
  refine wP 10 ⟨some 128,.indexAddr 32 (.tmp 126) (.tmp 127),0,"ref.go:90",#[⟨8,.data⟩,⟨9,.data⟩],none⟩ HP hHeld ?_
  try simp only [Act.put,sA,sB,sC]
  refine wP 11 ⟨some 129,.load 33 (.tmp 128),33,"ref.go:90",#[⟨10,.data⟩],none⟩ HP hHeld ?_
  try simp only [Act.put,sA,sB,sC]
  refine wP 12 ⟨some 130,.fieldAddr 50 (.tmp 14) 1,0,"ref.go:90",#[],none⟩ HP hHeld ?_
  try simp only [Act.put,sA,sB,sC]
  refine wP 13 ⟨some 131,.load 3 (.tmp 130),3,"ref.go:90",#[⟨12,.data⟩],none⟩ HP hHeld ?_
  try simp only [Act.put,sA,sB,sC]
  refine wP 14 ⟨some 132,.indexAddr 33 (.tmp 129) (.tmp 131),0,"ref.go:90",#[⟨11,.data⟩,⟨13,.data⟩],none⟩ HP hHeld ?_
  try simp only [Act.put,sA,sB,sC]
  refine wP 16 ⟨some 134,.load 28 (.tmp 2),28,"ref.go:90",#[],none⟩ HP hHeld ?_
  try simp only [Act.put,sA,sB,sC]
  refine wP 17 ⟨some 135,.load 35 (.tmp 3),35,"ref.go:90",#[],none⟩ HP hHeld ?_
  try simp only [Act.put,sA,sB,sC]
  refine wP 18 ⟨some 136,.move (.tmp 11),3,"ref.go:90",#[],none⟩ HP hHeld ?_
  try simp only [Act.put,sA,sB,sC]
  refine wP 19 ⟨some 137,.load 50 (.tmp 14),50,"ref.go:90",#[],none⟩ HP hHeld ?_
  try simp only [Act.put,sA,sB,sC]
  refine wpAnyH_ready (rs:=[15,20]) (by kernel_rfl) (by simp) ?_
  refine AllReadyH.cons (o:=⟨some 133,.load 44 (.tmp 132),44,"ref.go:90",#[⟨14,.data⟩],none⟩) rfl (fun K' hK'=>?_) ?_
  ·skip
   go_simp
   refine hK'.out _ _ hHeld (fun hHeld=>?_)
   clear hK' K'
   try simp only [Act.put,sA,sB,sC]
   refine wO 20 ⟨some 138,.call ⟨.value (.func 29),#[.tmp 134,.tmp 135,.tmp 136,.tmp 137],#[28,35,3,50]⟩,44,"ref.go:90",#[⟨16,.data⟩,⟨17,.data⟩,⟨18,.data⟩,⟨19,.data⟩],none⟩ (fun K' hK'=>?_)
   go_simp
   go_at_call 29
   refine Calls.mono (CB.out _ RD.out.bel) ?_
   rintro _ y ⟨rfl,hk⟩
   replace dz:=(hk.cell (World.block_lt_of_cell? _ _ dz)).trans dz
   replace OC:=hid ((hk.cell (World.block_lt_of_cell? _ _ OC.out)).trans OC.out)
   replace RD:=hid (RD.out.kept hk)
   replace VI:=hid (VI.out.kept hk)
   have hz:=hid (show y.cell? ⟨sb,0,none⟩ = some (.slice (some ⟨ob1,oo1,none⟩) c.threads.length oc1)∧y.cell? ⟨ob1,oo1 + i,none⟩ = some (.slice (some ⟨B1 i,0,none⟩) li cp1)∧y.cell? ⟨ib,0,none⟩ = some (.int .i64 x.op)∧y.cell? ⟨ib,1,none⟩ = some (.int .i64 (d : Int))∧y.cell? ⟨ib,2,none⟩ = some (.int .i64 x.src)∧y.cell? ⟨ib,3,none⟩ = some (.int .i64 x.rc)∧y.cell? ⟨ib,4,none⟩ = some (.int .i64 x.n)∧y.cell? ⟨ib,5,none⟩ = some (.int .i64 x.to)∧y.cell? ⟨ib,6,none⟩ = some (x.iv)∧y.cell? ⟨ib,7,none⟩ = some (x.xv)∧y.cell? ⟨W.heap.size,0,none⟩ = some (c.rv)∧y.cell? ⟨W.heap.size,1,none⟩ = some (c.gv)∧y.cell? ⟨W.heap.size,2,none⟩ = some (c.tv)∧y.cell? ⟨W.heap.size,3,none⟩ = some (c.ev)∧y.cell? ⟨W.heap.size,4,none⟩ = some (c.cv)∧y.cell? ⟨W.heap.size + 1,0,none⟩ = some (v0)∧y.cell? ⟨W.heap.size + 1,1,none⟩ = some (v1)∧y.cell? ⟨W.heap.size + 1,2,none⟩ = some (v2) from ⟨RD.out.bo.cell 0 rfl,OC.out,VI.out.cell 0 rfl,VI.out.cell 1 rfl,VI.out.cell 2 rfl,VI.out.cell 3 rfl,VI.out.cell 4 rfl,VI.out.cell 5 rfl,VI.out.cell 6 rfl,VI.out.cell 7 rfl,RD.out.b0.cell 0 rfl,RD.out.b0.cell 1 rfl,RD.out.b0.cell 2 rfl,RD.out.b0.cell 3 rfl,RD.out.b0.cell 4 rfl,RD.out.b1.cell 0 rfl,RD.out.b1.cell 1 rfl,RD.out.b1.cell 2 rfl⟩)
   clear hk
   refine hK'.out _ _ hz.out (fun hHeld=>?_)
   clear hK' K'
   try simp only [Act.put,sA,sB,sC]
   refine wP 21 ⟨some 139,.binOp .or 44 (.tmp 133) (.tmp 138) 44,44,"ref.go:90",#[⟨15,.data⟩,⟨20,.data⟩],none⟩ HP hHeld ?_
   try simp only [Act.put,sA,sB,sC]
   refine wP 22 ⟨some 140,.indexAddr 33 (.tmp 122) (.tmp 124),0,"ref.go:90",#[⟨4,.data⟩,⟨6,.data⟩,⟨0,.phase⟩,⟨1,.phase⟩,⟨2,.phase⟩,⟨3,.phase⟩,⟨4,.phase⟩,⟨5,.phase⟩,⟨6,.phase⟩,⟨7,.phase⟩,⟨8,.phase⟩,⟨9,.phase⟩,⟨10,.phase⟩,⟨11,.phase⟩,⟨12,.phase⟩,⟨13,.phase⟩,⟨14,.phase⟩,⟨15,.phase⟩,⟨16,.phase⟩,⟨17,.phase⟩,⟨18,.phase⟩,⟨19,.phase⟩,⟨20,.phase⟩,⟨21,.phase⟩],none⟩ HP hHeld ?_
   try simp only [Act.put,sA,sB,sC]
   refine wO 23 ⟨none,.store 44 (.tmp 140) (.tmp 139),0,"ref.go:90",#[⟨22,.data⟩,⟨21,.data⟩,⟨20,.chain⟩,⟨0,.phase⟩,⟨1,.phase⟩,⟨2,.phase⟩,⟨3,.phase⟩,⟨4,.phase⟩,⟨5,.phase⟩,⟨6,.phase⟩,⟨7,.phase⟩,⟨8,.phase⟩,⟨9,.phase⟩,⟨10,.phase⟩,⟨11,.phase⟩,⟨12,.phase⟩,⟨13,.phase⟩,⟨14,.phase⟩,⟨15,.phase⟩,⟨16,.phase⟩,⟨17,.phase⟩,⟨18,.phase⟩,⟨19,.phase⟩,⟨20,.phase⟩,⟨21,.phase⟩],none⟩ (fun K' hK'=>?_)
   refine step_store_cell 44 _ _ (by rfl) (by rfl) (B1 i) d (by rfl) (.int .u64 ((z ||| m : Nat) : Int)) (by first | rfl | simp [*]) size44 rfl _ _ (RD.out.varAt hk2.out) (by rw [cellsN_len];exact hk2.out) ?_
   intro X1 hv ht
   have RS:=RD.out.stored hk2.out hv ht
   have VS:=ht.var VI.out hne2.out
   have hz:=hid (show X1.cell? ⟨sb,0,none⟩ = some (.slice (some ⟨ob1,oo1,none⟩) c.threads.length oc1)∧X1.cell? ⟨ob1,oo1 + i,none⟩ = some (.slice (some ⟨B1 i,0,none⟩) li cp1)∧X1.cell? ⟨ib,0,none⟩ = some (.int .i64 x.op)∧X1.cell? ⟨ib,1,none⟩ = some (.int .i64 (d : Int))∧X1.cell? ⟨ib,2,none⟩ = some (.int .i64 x.src)∧X1.cell? ⟨ib,3,none⟩ = some (.int .i64 x.rc)∧X1.cell? ⟨ib,4,none⟩ = some (.int .i64 x.n)∧X1.cell? ⟨ib,5,none⟩ = some (.int .i64 x.to)∧X1.cell? ⟨ib,6,none⟩ = some (x.iv)∧X1.cell? ⟨ib,7,none⟩ = some (x.xv)∧X1.cell? ⟨W.heap.size,0,none⟩ = some (c.rv)∧X1.cell? ⟨W.heap.size,1,none⟩ = some (c.gv)∧X1.cell? ⟨W.heap.size,2,none⟩ = some (c.tv)∧X1.cell? ⟨W.heap.size,3,none⟩ = some (c.ev)∧X1.cell? ⟨W.heap.size,4,none⟩ = some (c.cv)∧X1.cell? ⟨W.heap.size + 1,0,none⟩ = some (v0)∧X1.cell? ⟨W.heap.size + 1,1,none⟩ = some (v1)∧X1.cell? ⟨W.heap.size + 1,2,none⟩ = some (v2) from ⟨RS.bo.cell 0 rfl,((World.cell?_of_block (ht.block ob1 hne.out)).trans OC.out),VS.cell 0 rfl,VS.cell 1 rfl,VS.cell 2 rfl,VS.cell 3 rfl,VS.cell 4 rfl,VS.cell 5 rfl,VS.cell 6 rfl,VS.cell 7 rfl,RS.b0.cell 0 rfl,RS.b0.cell 1 rfl,RS.b0.cell 2 rfl,RS.b0.cell 3 rfl,RS.b0.cell 4 rfl,RS.b1.cell 0 rfl,RS.b1.cell 1 rfl,RS.b1.cell 2 rfl⟩)
   replace RD:=hid RS
   replace VI:=hid VS
   clear hv ht RS VS
   refine hK'.out _ _ hz.out (fun hHeld=>?_)
   clear hK' K'
   try simp only [Act.put,sA,sB,sC]
   refine wpAnyH_done (by kernel_rfl) ?_ _
   clear hHeld
   go_wp2_with fail
   exact HQ.out _ _ _ _ _ _ _ _ _ _ _ _ _ _ _ _ _ _ _ _ _ _ _ _ _ _ _ _ RD.out (by rw [xcells,hdd.out];exact VI.out)
  refine AllReadyH.cons (o:=⟨some 138,.call ⟨.value (.func 29),#[.tmp 134,.tmp 135,.tmp 136,.tmp 137],#[28,35,3,50]⟩,44,"ref.go:90",#[⟨16,.data⟩,⟨17,.data⟩,⟨18,.data⟩,⟨19,.data⟩],none⟩) rfl (fun K' hK'=>?_) AllReadyH.nil
  go_simp
  go_at_call 29
  refine Calls.mono (CB.out _ RD.out.bel) ?_
  rintro _ y ⟨rfl,hk⟩
  replace dz:=(hk.cell (World.block_lt_of_cell? _ _ dz)).trans dz
  replace OC:=hid ((hk.cell (World.block_lt_of_cell? _ _ OC.out)).trans OC.out)
  replace RD:=hid (RD.out.kept hk)
  replace VI:=hid (VI.out.kept hk)
  have hz:=hid (show y.cell? ⟨sb,0,none⟩ = some (.slice (some ⟨ob1,oo1,none⟩) c.threads.length oc1)∧y.cell? ⟨ob1,oo1 + i,none⟩ = some (.slice (some ⟨B1 i,0,none⟩) li cp1)∧y.cell? ⟨ib,0,none⟩ = some (.int .i64 x.op)∧y.cell? ⟨ib,1,none⟩ = some (.int .i64 (d : Int))∧y.cell? ⟨ib,2,none⟩ = some (.int .i64 x.src)∧y.cell? ⟨ib,3,none⟩ = some (.int .i64 x.rc)∧y.cell? ⟨ib,4,none⟩ = some (.int .i64 x.n)∧y.cell? ⟨ib,5,none⟩ = some (.int .i64 x.to)∧y.cell? ⟨ib,6,none⟩ = some (x.iv)∧y.cell? ⟨ib,7,none⟩ = some (x.xv)∧y.cell? ⟨W.heap.size,0,none⟩ = some (c.rv)∧y.cell? ⟨W.heap.size,1,none⟩ = some (c.gv)∧y.cell? ⟨W.heap.size,2,none⟩ = some (c.tv)∧y.cell? ⟨W.heap.size,3,none⟩ = some (c.ev)∧y.cell? ⟨W.heap.size,4,none⟩ = some (c.cv)∧y.cell? ⟨W.heap.size + 1,0,none⟩ = some (v0)∧y.cell? ⟨W.heap.size + 1,1,none⟩ = some (v1)∧y.cell? ⟨W.heap.size + 1,2,none⟩ = some (v2) from ⟨RD.out.bo.cell 0 rfl,OC.out,VI.out.cell 0 rfl,VI.out.cell 1 rfl,VI.out.cell 2 rfl,VI.out.cell 3 rfl,VI.out.cell 4 rfl,VI.out.cell 5 rfl,VI.out.cell 6 rfl,VI.out.cell 7 rfl,RD.out.b0.cell 0 rfl,RD.out.b0.cell 1 rfl,RD.out.b0.cell 2 rfl,RD.out.b0.cell 3 rfl,RD.out.b0.cell 4 rfl,RD.out.b1.cell 0 rfl,RD.out.b1.cell 1 rfl,RD.out.b1.cell 2 rfl⟩)
  clear hk
  refine hK'.out _ _ hz.out (fun hHeld=>?_)
  clear hK' K'
  try simp only [Act.put,sA,sB,sC]
  refine wO 15 ⟨some 133,.load 44 (.tmp 132),44,"ref.go:90",#[⟨14,.data⟩],none⟩ (fun K' hK'=>?_)
  go_simp
  refine hK'.out _ _ hHeld (fun hHeld=>?_)
  clear hK' K'
  try simp only [Act.put,sA,sB,sC]
  refine wP 21 ⟨some 139,.binOp .or 44 (.tmp 133) (.tmp 138) 44,44,"ref.go:90",#[⟨15,.data⟩,⟨20,.data⟩],none⟩ HP hHeld ?_
  try simp only [Act.put,sA,sB,sC]
  refine wP 22 ⟨some 140,.indexAddr 33 (.tmp 122) (.tmp 124),0,"ref.go:90",#[⟨4,.data⟩,⟨6,.data⟩,⟨0,.phase⟩,⟨1,.phase⟩,⟨2,.phase⟩,⟨3,.phase⟩,⟨4,.phase⟩,⟨5,.phase⟩,⟨6,.phase⟩,⟨7,.phase⟩,⟨8,.phase⟩,⟨9,.phase⟩,⟨10,.phase⟩,⟨11,.phase⟩,⟨12,.phase⟩,⟨13,.phase⟩,⟨14,.phase⟩,⟨15,.phase⟩,⟨16,.phase⟩,⟨17,.phase⟩,⟨18,.phase⟩,⟨19,.phase⟩,⟨20,.phase⟩,⟨21,.phase⟩],none⟩ HP hHeld ?_
  try simp only [Act.put,sA,sB,sC]
  refine wO 23 ⟨none,.store 44 (.tmp 140) (.tmp 139),0,"ref.go:90",#[⟨22,.data⟩,⟨21,.data⟩,⟨20,.chain⟩,⟨0,.phase⟩,⟨1,.phase⟩,⟨2,.phase⟩,⟨3,.phase⟩,⟨4,.phase⟩,⟨5,.phase⟩,⟨6,.phase⟩,⟨7,.phase⟩,⟨8,.phase⟩,⟨9,.phase⟩,⟨10,.phase⟩,⟨11,.phase⟩,⟨12,.phase⟩,⟨13,.phase⟩,⟨14,.phase⟩,⟨15,.phase⟩,⟨16,.phase⟩,⟨17,.phase⟩,⟨18,.phase⟩,⟨19,.phase⟩,⟨20,.phase⟩,⟨21,.phase⟩],none⟩ (fun K' hK'=>?_)
  refine step_store_cell 44 _ _ (by rfl) (by rfl) (B1 i) d (by rfl) (.int .u64 ((z ||| m : Nat) : Int)) (by first | rfl | simp [*]) size44 rfl _ _ (RD.out.varAt hk2.out) (by rw [cellsN_len];exact hk2.out) ?_
  intro X1 hv ht
  have RS:=RD.out.stored hk2.out hv ht
  have VS:=ht.var VI.out hne2.out
  have hz:=hid (show X1.cell? ⟨sb,0,none⟩ = some (.slice (some ⟨ob1,oo1,none⟩) c.threads.length oc1)∧X1.cell? ⟨ob1,oo1 + i,none⟩ = some (.slice (some ⟨B1 i,0,none⟩) li cp1)∧X1.cell? ⟨ib,0,none⟩ = some (.int .i64 x.op)∧X1.cell? ⟨ib,1,none⟩ = some (.int .i64 (d : Int))∧X1.cell? ⟨ib,2,none⟩ = some (.int .i64 x.src)∧X1.cell? ⟨ib,3,none⟩ = some (.int .i64 x.rc)∧X1.cell? ⟨ib,4,none⟩ = some (.int .i64 x.n)∧X1.cell? ⟨ib,5,none⟩ = some (.int .i64 x.to)∧X1.cell? ⟨ib,6,none⟩ = some (x.iv)∧X1.cell? ⟨ib,7,none⟩ = some (x.xv)∧X1.cell? ⟨W.heap.size,0,none⟩ = some (c.rv)∧X1.cell? ⟨W.heap.size,1,none⟩ = some (c.gv)∧X1.cell? ⟨W.heap.size,2,none⟩ = some (c.tv)∧X1.cell? ⟨W.heap.size,3,none⟩ = some (c.ev)∧X1.cell? ⟨W.heap.size,4,none⟩ = some (c.cv)∧X1.cell? ⟨W.heap.size + 1,0,none⟩ = some (v0)∧X1.cell? ⟨W.heap.size + 1,1,none⟩ = some (v1)∧X1.cell? ⟨W.heap.size + 1,2,none⟩ = some (v2) from ⟨RS.bo.cell 0 rfl,((World.cell?_of_block (ht.block ob1 hne.out)).trans OC.out),VS.cell 0 rfl,VS.cell 1 rfl,VS.cell 2 rfl,VS.cell 3 rfl,VS.cell 4 rfl,VS.cell 5 rfl,VS.cell 6 rfl,VS.cell 7 rfl,RS.b0.cell 0 rfl,RS.b0.cell 1 rfl,RS.b0.cell 2 rfl,RS.b0.cell 3 rfl,RS.b0.cell 4 rfl,RS.b1.cell 0 rfl,RS.b1.cell 1 rfl,RS.b1.cell 2 rfl⟩)
  replace RD:=hid RS
  replace VI:=hid VS
  clear hv ht RS VS
  refine hK'.out _ _ hz.out (fun hHeld=>?_)
  clear hK' K'
  try simp only [Act.put,sA,sB,sC]
  refine wpAnyH_done (by kernel_rfl) ?_ _
  clear hHeld
  go_wp2_with fail
  exact HQ.out _ _ _ _ _ _ _ _ _ _ _ _ _ _ _ _ _ _ _ _ _ _ _ _ _ _ _ _ RD.out (by rw [xcells,hdd.out];exact VI.out)
 ·have hdf : dstB b x = false:=by simpa using hd
  rw [if_neg hd] at HQ
  rw [hdf] at CD
  clear h0 hi hc g hs hL hL1 hb hx hd
  go_wp2_with (go_at_call 28;refine Calls.mono (CD.out _ RD.out.bel) ?_;rintro _ y0 ⟨rfl,hk⟩;replace RD:=hid (RD.out.kept hk);replace VI:=hid (VI.out.kept hk);clear hk CD e0 e1 e2 e3 e4 x0 x1 x2 x3 x4 x5 x6 x7)
  exact HQ.out _ _ _ _ _ _ _ _ _ _ _ _ _ _ _ _ _ _ _ _ _ _ _ _ _ _ _ _ RD.out VI.out
end Go.Proofs.YtkdpcaoocmbbhaaDoor
/- Round: what comes to a global. -/
namespace Go.Proofs.YtkdpcaoocmbbhaaDoor
open Go.ChangeShapes Go.WideShapes Go.ChangeAt Go.RowKit Go.Deep
set_option linter.unusedVariables false
set_option linter.unusedSimpArgs false

def gloB (c : Cd) (x : Ins) : Bool:=x.op == 5 && meansL (globAt c x)
set_option maxRecDepth 1000000 in
set_option maxHeartbeats 4000000 in
theorem pieceG {W : World} {sb base top base0 top0 : Nat} {c : Cd} {v0 v1 v2 w0 w1 w2 : Value} {R R1 : List (List Nat)} {V V1 : Nat→Value} {B B1 : Nat→Nat} (hc : c.okW W) (g : GoodP c) (hs : SetsM W base0 top0 c.threads.length c.sites.length v0 v1 v2 R V B) (hL : Low c R) (hL1 : Low c R1) {i k : Nat} {b : Bd} {x : Ins} (hb : c.threads[i]? = some b) (hx : b.code[k]? = some x) {ib : Nat} {u0 u1 u6 u7 u8 u9 u10 u12 u13 u15 u16 u17 u18 u19 u20 u21 u22 u23 u24 u25 u26 u27 u28 u29 u30 u31 u32 u33 u34 u35 u36 u37 u38 u39 u40 u41 u42 u43 u44 u45 u46 u47 u48 u49 u50 u51 u52 u53 u54 u55 u56 u57 u58 u59 u60 u61 u62 u63 u64 u65 u66 u67 u68 u69 u70 u71 u72 u73 u74 u75 u76 u77 u78 u79 u80 u81 u82 u83 u84 u85 u86 u87 u88 u89 u90 u91 u92 u93 u94 u95 u96 u97 u98 u99 u100 u101 u102 u103 u104 u105 u106 u107 u108 u109 u110 u111 u112 u113 u114 u115 u116 u117 u118 u119 u120 u121 u122 u123 u124 u125 u126 u127 u128 u129 u130 u131 u132 u133 u134 u135 u136 u137 u138 u139 u140 u141 u142 u143 u144 u145 u146 u147 u148 u149 u150 u151 u152 u153 u154 u155 u156 u157 u158 u159 u160 u161 u162 u163 u164 u165 u166 u167 u168 u169 u170 u171 u172 u173 u174 u175 u176 u177 u178 u179 u180 u181 u182 u183 u184 u185 u186 u187 u188 u189 u190 u191 u192 u193 u194 u195 u196 u197 u198 u199 u200 u201 u202 u203 u204 u205 u206 u207 u208 u209 u210 u211 u212 u213 u214 u215 u216 u217 u218 u219 u220 u221 u222 u223 u224 u225 u226 u227 u228 u229 u230 u231 u232 u233 u234 u235 u236 u237 u238 : Value} {X : World}
  (h0 : Rnd W sb base top c v0 v1 v2 w0 w1 w2 R1 V1 B1 X) (hi : VarAt X ib x.cells 50) (hib : sb < ib) {Q : Exit→Act→World→Prop} (hP : ∀ c (a : Act) i v w,Q (.panic c) (a.put i v) w→Q (.panic c) a w)
  (hQ : ∀ (u141 u142 u143 u144 u145 u146 u147 u148 u149 u150 u151 u152 u153 u154 u155 u156 u157 u158 u159 u160 u161 u162 u163 u164 u165 u166 u167 u168 u169 : Value) (X1 : World),Rnd W sb base top c v0 v1 v2 w0 w1 w2 (if gloB c x = true then bringR R1 c.threads.length x.n.toNat (meant R i (usesN x.items)) else R1) V1 B1 X1→VarAt X1 ib x.cells 50→Q .normal ⟨#[u0,u1,.pointer (some ⟨W.heap.size,0,none⟩),.pointer (some ⟨W.heap.size + 1,0,none⟩),.pointer (some ⟨W.heap.size + 2,0,none⟩),.pointer (some ⟨sb,0,none⟩),u6,u7,u8,u9,u10,.int .i64 (i : Int),u12,u13,.pointer (some ⟨ib,0,none⟩),u15,u16,u17,u18,u19,u20,u21,u22,u23,u24,u25,u26,u27,u28,u29,u30,u31,u32,u33,u34,u35,u36,u37,u38,u39,u40,u41,u42,u43,u44,u45,u46,u47,u48,u49,u50,u51,u52,u53,u54,u55,u56,u57,u58,u59,u60,u61,u62,u63,u64,u65,u66,u67,u68,u69,u70,u71,u72,u73,u74,u75,u76,u77,u78,u79,u80,u81,u82,u83,u84,u85,u86,u87,u88,u89,u90,u91,u92,u93,u94,u95,u96,u97,u98,u99,u100,u101,u102,u103,u104,u105,u106,u107,u108,u109,u110,u111,u112,u113,u114,u115,u116,u117,u118,u119,u120,u121,u122,u123,u124,u125,u126,u127,u128,u129,u130,u131,u132,u133,u134,u135,u136,u137,u138,u139,u140,u141,u142,u143,u144,u145,u146,u147,u148,u149,u150,u151,u152,u153,u154,u155,u156,u157,u158,u159,u160,u161,u162,u163,u164,u165,u166,u167,u168,u169,u170,u171,u172,u173,u174,u175,u176,u177,u178,u179,u180,u181,u182,u183,u184,u185,u186,u187,u188,u189,u190,u191,u192,u193,u194,u195,u196,u197,u198,u199,u200,u201,u202,u203,u204,u205,u206,u207,u208,u209,u210,u211,u212,u213,u214,u215,u216,u217,u218,u219,u220,u221,u222,u223,u224,u225,u226,u227,u228,u229,u230,u231,u232,u233,u234,u235,u236,u237,u238],[]⟩ X1) :
  Code.wp Tryd.prog (lft (rgt (rgt (inb (lft (rgt (rgt (inb (inb (rgt (rgt (inb (lft (rgt (rgt (inb (inb (rgt (lft (rgt (rgt (rgt (rgt (rgt (Tryd.f14.body.getD .skip))))))))))))))))))))))))) Q ⟨#[u0,u1,.pointer (some ⟨W.heap.size,0,none⟩),.pointer (some ⟨W.heap.size + 1,0,none⟩),.pointer (some ⟨W.heap.size + 2,0,none⟩),.pointer (some ⟨sb,0,none⟩),u6,u7,u8,u9,u10,.int .i64 (i : Int),u12,u13,.pointer (some ⟨ib,0,none⟩),u15,u16,u17,u18,u19,u20,u21,u22,u23,u24,u25,u26,u27,u28,u29,u30,u31,u32,u33,u34,u35,u36,u37,u38,u39,u40,u41,u42,u43,u44,u45,u46,u47,u48,u49,u50,u51,u52,u53,u54,u55,u56,u57,u58,u59,u60,u61,u62,u63,u64,u65,u66,u67,u68,u69,u70,u71,u72,u73,u74,u75,u76,u77,u78,u79,u80,u81,u82,u83,u84,u85,u86,u87,u88,u89,u90,u91,u92,u93,u94,u95,u96,u97,u98,u99,u100,u101,u102,u103,u104,u105,u106,u107,u108,u109,u110,u111,u112,u113,u114,u115,u116,u117,u118,u119,u120,u121,u122,u123,u124,u125,u126,u127,u128,u129,u130,u131,u132,u133,u134,u135,u136,u137,u138,u139,u140,u141,u142,u143,u144,u145,u146,u147,u148,u149,u150,u151,u152,u153,u154,u155,u156,u157,u158,u159,u160,u161,u162,u163,u164,u165,u166,u167,u168,u169,u170,u171,u172,u173,u174,u175,u176,u177,u178,u179,u180,u181,u182,u183,u184,u185,u186,u187,u188,u189,u190,u191,u192,u193,u194,u195,u196,u197,u198,u199,u200,u201,u202,u203,u204,u205,u206,u207,u208,u209,u210,u211,u212,u213,u214,u215,u216,u217,u218,u219,u220,u221,u222,u223,u224,u225,u226,u227,u228,u229,u230,u231,u232,u233,u234,u235,u236,u237,u238],[]⟩ X:=by
 conv=>arg 2;whnf
 have HQ:=hid hQ
 have HP:=hid hP
 clear hQ hP
 have RD:=hid h0
 have VI:=hid hi
 rw [xcells] at hi
 have x0:=hi.cell 0 rfl
 by_cases hop : x.op = 5
 ·have F:=ins_facts g hb hx
  obtain ⟨m,hdd,hml⟩:=F.g (.inr hop)
  obtain ⟨l,hl⟩ : ∃ l,c.globs[m]? = some l:=⟨c.globs[m],by simp [hml]⟩
  have hgl : globAt c x = l:=by unfold globAt;rw [hdd,Int.toNat_natCast];simp [List.getD,hl]
  obtain ⟨ga,gp,ge,hr⟩:=locs_at hc.2.1
  obtain ⟨gb,go,rfl,hlt,_,c0,c1,c2⟩:=hr m l hl
  have hgB : gloB c x = meansL l:=by unfold gloB;rw [hop,hgl];rfl
  have e1:=h0.b0.cell 1 rfl
  rw [ge] at e1
  have x4:=hi.cell 4 rfl
  rw [hdd] at x4
  rw [← h0.bel.cell hlt] at c0 c1 c2
  have hmI : (m : Int) < (c.globs.length : Int):=by omega
  replace VI:=hid (show VarAt X ib [.int .i64 x.op,.int .i64 x.dst,.int .i64 x.src,.int .i64 x.rc,.int .i64 (m : Int),.int .i64 x.to,x.iv,x.xv] 50 from by rw [hdd] at hi;exact hi)
  cases hm : meansL l
  ·have CM:=hid (fun Y=>means_any l Y)
   rw [hm] at hgB CM
   simp only [Loc.cells] at CM
   rw [if_neg (by rw [hgB];decide)] at HQ
   rw [hop] at x0
   replace hdd:=hid hdd
   clear h0 hi hc g hs hL hL1 hb hx F hml hl hgl ge hr hgB hm hop
   go_wp2_with (go_at_call 30;refine Calls.mono (CM.out _) ?_;rintro _ y0 ⟨rfl,hk⟩;replace RD:=hid (RD.out.kept hk);replace VI:=hid (VI.out.kept hk);clear hk CM c0 c1 c2 e1 x0 x4)
   exact HQ.out _ _ _ _ _ _ _ _ _ _ _ _ _ _ _ _ _ _ _ _ _ _ _ _ _ _ _ _ _ _ RD.out (by rw [xcells,hdd.out];exact VI.out)
  ·have CM:=hid (fun Y=>means_any l Y)
   rw [hm] at hgB CM
   simp only [Loc.cells] at CM
   rw [if_pos hgB,hdd,Int.toNat_natCast] at HQ
   simp only [bringR] at HQ
   have hit:=(List.getElem?_eq_some_iff.1 hb).1
   have hk1' : m < (R1.getD c.threads.length []).length:=by rw [row_at hL1,shape_globs];exact hml
   have IP:=items_pre hc g hL hb hx
   have IK:=ins_okw hc hb hx
   have CI:=hid (fun Y (hY : Below W.heap.size W Y)=>items_any (hs.kept hY) (hL.allU g) i hit x.iv x.items (Ins.kept IK hY).2.1 IP.1 IP.2)
   have U1:=hL1.allU g
   have e5:=or64 (U1 c.threads.length m) (meant_lt (hL.allU g) i (usesN x.items))
   obtain ⟨a1,cp1,rfl,o6⟩:=h0.sets.rowGl
   obtain ⟨rfl,hvv,hcz⟩:=o6 m hk1'
   have hk1:=hid hk1'
   have hne2:=hid (show ib ≠ B1 c.threads.length from by have:=(h0.sets.at hk1').choose_spec.2.2.2.1;have:=h0.ab;omega)
   have hdI : (m : Int) < ((R1.getD c.threads.length []).length : Int):=by omega
   rw [hop] at x0
   replace hdd:=hid hdd
   generalize hzz : gR R1 c.threads.length m = z at *
   generalize hmm : meant R i (usesN x.items) = mm at *
   generalize hll : (R1.getD c.threads.length []).length = li at *
   replace hll:=hid hll
   have hk2 : Hid (m < (R1.getD c.threads.length []).length):=hid (by rw [hll.out];exact hk1.out)
   have dz:=hcz
   replace CI:=hid CI.out
   clear F hml hl hgl ge hr hgB hm hop hk1' U1 hcz hvv o6 h0 hi hc g hs hL hL1 hb hx hit hzz hmm IP IK
   go_wp2_with (go_at_call 30;refine Calls.mono (CM.out _) ?_;rintro _ y0 ⟨rfl,hk⟩;replace dz:=(hk.cell (World.block_lt_of_cell? _ _ dz)).trans dz;replace RD:=hid (RD.out.kept hk);replace VI:=hid (VI.out.kept hk);clear hk CM c0 c1 c2 e1 x0 x4)
   replace RD:=hid RD.out.drew
   replace VI:=hid (VI.out.kept (Below.refl _ _).drew)
   replace dz:=((Below.refl _ _).drew.cell (World.block_lt_of_cell? _ _ dz)).trans dz
   refine wp_region_held_drew (S:=fun (w' : World)=>w'.cell? ⟨sb,1,none⟩ = some (.slice (some ⟨B1 c.threads.length,0,none⟩) li cp1)∧w'.cell? ⟨ib,0,none⟩ = some (.int .i64 x.op)∧w'.cell? ⟨ib,1,none⟩ = some (.int .i64 x.dst)∧w'.cell? ⟨ib,2,none⟩ = some (.int .i64 x.src)∧w'.cell? ⟨ib,3,none⟩ = some (.int .i64 x.rc)∧w'.cell? ⟨ib,4,none⟩ = some (.int .i64 (m : Int))∧w'.cell? ⟨ib,5,none⟩ = some (.int .i64 x.to)∧w'.cell? ⟨ib,6,none⟩ = some (x.iv)∧w'.cell? ⟨ib,7,none⟩ = some (x.xv)∧w'.cell? ⟨W.heap.size + 1,0,none⟩ = some (v0)∧w'.cell? ⟨W.heap.size + 1,1,none⟩ = some (v1)∧w'.cell? ⟨W.heap.size + 1,2,none⟩ = some (v2)) (by kernel_rfl) (⟨RD.out.bo.cell 1 rfl,VI.out.cell 0 rfl,VI.out.cell 1 rfl,VI.out.cell 2 rfl,VI.out.cell 3 rfl,VI.out.cell 4 rfl,VI.out.cell 5 rfl,VI.out.cell 6 rfl,VI.out.cell 7 rfl,RD.out.b1.cell 0 rfl,RD.out.b1.cell 1 rfl,RD.out.b1.cell 2 rfl⟩) (fun hHeld=>?_)
   refine wP 0 ⟨some 153,.fieldAddr 35 (.tmp 5) 1,0,"ref.go:93",#[],none⟩ HP hHeld ?_
   try simp only [Act.put,sA,sB,sC]
   refine wP 1 ⟨some 154,.load 33 (.tmp 153),33,"ref.go:93",#[⟨0,.data⟩],none⟩ HP hHeld ?_
   try simp only [Act.put,sA,sB,sC]
   refine wP 2 ⟨some 155,.fieldAddr 50 (.tmp 14) 4,0,"ref.go:93",#[],none⟩ HP hHeld ?_
   try simp only [Act.put,sA,sB,sC]
   refine wP 3 ⟨some 156,.load 3 (.tmp 155),3,"ref.go:93",#[⟨2,.data⟩],none⟩ HP hHeld ?_
   try simp only [Act.put,sA,sB,sC]
   refine wP 4 ⟨some 157,.fieldAddr 35 (.tmp 5) 1,0,"ref.go:93",#[],none⟩ HP hHeld ?_
   try simp only [Act.put,sA,sB,sC]
   refine wP 5 ⟨some 158,.load 33 (.tmp 157),33,"ref.go:93",#[⟨4,.data⟩],none⟩ HP hHeld ?_
   try simp only [Act.put,sA,sB,sC]
   refine wP 6 ⟨some 159,.fieldAddr 50 (.tmp 14) 4,0,"ref.go:93",#[],none⟩ HP hHeld ?_
   try simp only [Act.put,sA,sB,sC]
   refine wP 7 ⟨some 160,.load 3 (.tmp 159),3,"ref.go:93",#[⟨6,.data⟩],none⟩ HP hHeld ?_
   try simp only [Act.put,sA,sB,sC]
   refine wP 8 ⟨some 161,.indexAddr 33 (.tmp 158) (.tmp 160),0,"ref.go:93",#[⟨5,.data⟩,⟨7,.data⟩],none⟩ HP hHeld ?_
   try simp only [Act.put,sA,sB,sC]
   refine wP 10 ⟨some 163,.load 35 (.tmp 3),35,"ref.go:93",#[],none⟩ HP hHeld ?_
   try simp only [Act.put,sA,sB,sC]
   refine wP 11 ⟨some 164,.move (.tmp 11),3,"ref.go:93",#[],none⟩ HP hHeld ?_
   try simp only [Act.put,sA,sB,sC]
   refine wP 12 ⟨some 165,.fieldAddr 50 (.tmp 14) 6,0,"ref.go:93",#[],none⟩ HP hHeld ?_
   try simp only [Act.put,sA,sB,sC]
   refine wP 13 ⟨some 166,.load 48 (.tmp 165),48,"ref.go:93",#[⟨12,.data⟩],none⟩ HP hHeld ?_
   try simp only [Act.put,sA,sB,sC]
   refine wpAnyH_ready (rs:=[9,14]) (by kernel_rfl) (by simp) ?_
   refine AllReadyH.cons (o:=⟨some 162,.load 44 (.tmp 161),44,"ref.go:93",#[⟨8,.data⟩],none⟩) rfl (fun K' hK'=>?_) ?_
   ·skip
    go_simp
    refine hK'.out _ _ hHeld (fun hHeld=>?_)
    clear hK' K'
    try simp only [Act.put,sA,sB,sC]
    refine wO 14 ⟨some 167,.call ⟨.value (.func 31),#[.tmp 163,.tmp 164,.tmp 166],#[35,3,48]⟩,44,"ref.go:93",#[⟨10,.data⟩,⟨11,.data⟩,⟨13,.data⟩],none⟩ (fun K' hK'=>?_)
    go_simp
    go_at_call 31
    refine Calls.mono (CI.out _ RD.out.bel) ?_
    rintro _ y ⟨rfl,hk⟩
    replace dz:=(hk.cell (World.block_lt_of_cell? _ _ dz)).trans dz
    replace RD:=hid (RD.out.kept hk)
    replace VI:=hid (VI.out.kept hk)
    have hz:=hid (show y.cell? ⟨sb,1,none⟩ = some (.slice (some ⟨B1 c.threads.length,0,none⟩) li cp1)∧y.cell? ⟨ib,0,none⟩ = some (.int .i64 x.op)∧y.cell? ⟨ib,1,none⟩ = some (.int .i64 x.dst)∧y.cell? ⟨ib,2,none⟩ = some (.int .i64 x.src)∧y.cell? ⟨ib,3,none⟩ = some (.int .i64 x.rc)∧y.cell? ⟨ib,4,none⟩ = some (.int .i64 (m : Int))∧y.cell? ⟨ib,5,none⟩ = some (.int .i64 x.to)∧y.cell? ⟨ib,6,none⟩ = some (x.iv)∧y.cell? ⟨ib,7,none⟩ = some (x.xv)∧y.cell? ⟨W.heap.size + 1,0,none⟩ = some (v0)∧y.cell? ⟨W.heap.size + 1,1,none⟩ = some (v1)∧y.cell? ⟨W.heap.size + 1,2,none⟩ = some (v2) from ⟨RD.out.bo.cell 1 rfl,VI.out.cell 0 rfl,VI.out.cell 1 rfl,VI.out.cell 2 rfl,VI.out.cell 3 rfl,VI.out.cell 4 rfl,VI.out.cell 5 rfl,VI.out.cell 6 rfl,VI.out.cell 7 rfl,RD.out.b1.cell 0 rfl,RD.out.b1.cell 1 rfl,RD.out.b1.cell 2 rfl⟩)
    clear hk
    refine hK'.out _ _ hz.out (fun hHeld=>?_)
    clear hK' K'
    try simp only [Act.put,sA,sB,sC]
    refine wP 15 ⟨some 168,.binOp .or 44 (.tmp 162) (.tmp 167) 44,44,"ref.go:93",#[⟨9,.data⟩,⟨14,.data⟩],none⟩ HP hHeld ?_
    try simp only [Act.put,sA,sB,sC]
    refine wP 16 ⟨some 169,.indexAddr 33 (.tmp 154) (.tmp 156),0,"ref.go:93",#[⟨1,.data⟩,⟨3,.data⟩,⟨0,.phase⟩,⟨1,.phase⟩,⟨2,.phase⟩,⟨3,.phase⟩,⟨4,.phase⟩,⟨5,.phase⟩,⟨6,.phase⟩,⟨7,.phase⟩,⟨8,.phase⟩,⟨9,.phase⟩,⟨10,.phase⟩,⟨11,.phase⟩,⟨12,.phase⟩,⟨13,.phase⟩,⟨14,.phase⟩,⟨15,.phase⟩],none⟩ HP hHeld ?_
    try simp only [Act.put,sA,sB,sC]
    refine wO 17 ⟨none,.store 44 (.tmp 169) (.tmp 168),0,"ref.go:93",#[⟨16,.data⟩,⟨15,.data⟩,⟨14,.chain⟩,⟨0,.phase⟩,⟨1,.phase⟩,⟨2,.phase⟩,⟨3,.phase⟩,⟨4,.phase⟩,⟨5,.phase⟩,⟨6,.phase⟩,⟨7,.phase⟩,⟨8,.phase⟩,⟨9,.phase⟩,⟨10,.phase⟩,⟨11,.phase⟩,⟨12,.phase⟩,⟨13,.phase⟩,⟨14,.phase⟩,⟨15,.phase⟩],none⟩ (fun K' hK'=>?_)
    refine step_store_cell 44 _ _ (by rfl) (by rfl) (B1 c.threads.length) m (by rfl) (.int .u64 ((z ||| mm : Nat) : Int)) (by first | rfl | simp [*]) size44 rfl _ _ (RD.out.varAt hk2.out) (by rw [cellsN_len];exact hk2.out) ?_
    intro X1 hv ht
    have RS:=RD.out.stored hk2.out hv ht
    have VS:=ht.var VI.out hne2.out
    have hz:=hid (show X1.cell? ⟨sb,1,none⟩ = some (.slice (some ⟨B1 c.threads.length,0,none⟩) li cp1)∧X1.cell? ⟨ib,0,none⟩ = some (.int .i64 x.op)∧X1.cell? ⟨ib,1,none⟩ = some (.int .i64 x.dst)∧X1.cell? ⟨ib,2,none⟩ = some (.int .i64 x.src)∧X1.cell? ⟨ib,3,none⟩ = some (.int .i64 x.rc)∧X1.cell? ⟨ib,4,none⟩ = some (.int .i64 (m : Int))∧X1.cell? ⟨ib,5,none⟩ = some (.int .i64 x.to)∧X1.cell? ⟨ib,6,none⟩ = some (x.iv)∧X1.cell? ⟨ib,7,none⟩ = some (x.xv)∧X1.cell? ⟨W.heap.size + 1,0,none⟩ = some (v0)∧X1.cell? ⟨W.heap.size + 1,1,none⟩ = some (v1)∧X1.cell? ⟨W.heap.size + 1,2,none⟩ = some (v2) from ⟨RS.bo.cell 1 rfl,VS.cell 0 rfl,VS.cell 1 rfl,VS.cell 2 rfl,VS.cell 3 rfl,VS.cell 4 rfl,VS.cell 5 rfl,VS.cell 6 rfl,VS.cell 7 rfl,RS.b1.cell 0 rfl,RS.b1.cell 1 rfl,RS.b1.cell 2 rfl⟩)
    replace RD:=hid RS
    replace VI:=hid VS
    clear hv ht RS VS
    refine hK'.out _ _ hz.out (fun hHeld=>?_)
    clear hK' K'
    try simp only [Act.put,sA,sB,sC]
    refine wpAnyH_done (by kernel_rfl) ?_ _
    clear hHeld
    go_wp2_with fail
    exact HQ.out _ _ _ _ _ _ _ _ _ _ _ _ _ _ _ _ _ _ _ _ _ _ _ _ _ _ _ _ _ _ RD.out (by rw [xcells,hdd.out];exact VI.out)
   refine AllReadyH.cons (o:=⟨some 167,.call ⟨.value (.func 31),#[.tmp 163,.tmp 164,.tmp 166],#[35,3,48]⟩,44,"ref.go:93",#[⟨10,.data⟩,⟨11,.data⟩,⟨13,.data⟩],none⟩) rfl (fun K' hK'=>?_) AllReadyH.nil
   go_simp
   go_at_call 31
   refine Calls.mono (CI.out _ RD.out.bel) ?_
   rintro _ y ⟨rfl,hk⟩
   replace dz:=(hk.cell (World.block_lt_of_cell? _ _ dz)).trans dz
   replace RD:=hid (RD.out.kept hk)
   replace VI:=hid (VI.out.kept hk)
   have hz:=hid (show y.cell? ⟨sb,1,none⟩ = some (.slice (some ⟨B1 c.threads.length,0,none⟩) li cp1)∧y.cell? ⟨ib,0,none⟩ = some (.int .i64 x.op)∧y.cell? ⟨ib,1,none⟩ = some (.int .i64 x.dst)∧y.cell? ⟨ib,2,none⟩ = some (.int .i64 x.src)∧y.cell? ⟨ib,3,none⟩ = some (.int .i64 x.rc)∧y.cell? ⟨ib,4,none⟩ = some (.int .i64 (m : Int))∧y.cell? ⟨ib,5,none⟩ = some (.int .i64 x.to)∧y.cell? ⟨ib,6,none⟩ = some (x.iv)∧y.cell? ⟨ib,7,none⟩ = some (x.xv)∧y.cell? ⟨W.heap.size + 1,0,none⟩ = some (v0)∧y.cell? ⟨W.heap.size + 1,1,none⟩ = some (v1)∧y.cell? ⟨W.heap.size + 1,2,none⟩ = some (v2) from ⟨RD.out.bo.cell 1 rfl,VI.out.cell 0 rfl,VI.out.cell 1 rfl,VI.out.cell 2 rfl,VI.out.cell 3 rfl,VI.out.cell 4 rfl,VI.out.cell 5 rfl,VI.out.cell 6 rfl,VI.out.cell 7 rfl,RD.out.b1.cell 0 rfl,RD.out.b1.cell 1 rfl,RD.out.b1.cell 2 rfl⟩)
   clear hk
   refine hK'.out _ _ hz.out (fun hHeld=>?_)
   clear hK' K'
   try simp only [Act.put,sA,sB,sC]
   refine wO 9 ⟨some 162,.load 44 (.tmp 161),44,"ref.go:93",#[⟨8,.data⟩],none⟩ (fun K' hK'=>?_)
   go_simp
   refine hK'.out _ _ hHeld (fun hHeld=>?_)
   clear hK' K'
   try simp only [Act.put,sA,sB,sC]
   refine wP 15 ⟨some 168,.binOp .or 44 (.tmp 162) (.tmp 167) 44,44,"ref.go:93",#[⟨9,.data⟩,⟨14,.data⟩],none⟩ HP hHeld ?_
   try simp only [Act.put,sA,sB,sC]
   refine wP 16 ⟨some 169,.indexAddr 33 (.tmp 154) (.tmp 156),0,"ref.go:93",#[⟨1,.data⟩,⟨3,.data⟩,⟨0,.phase⟩,⟨1,.phase⟩,⟨2,.phase⟩,⟨3,.phase⟩,⟨4,.phase⟩,⟨5,.phase⟩,⟨6,.phase⟩,⟨7,.phase⟩,⟨8,.phase⟩,⟨9,.phase⟩,⟨10,.phase⟩,⟨11,.phase⟩,⟨12,.phase⟩,⟨13,.phase⟩,⟨14,.phase⟩,⟨15,.phase⟩],none⟩ HP hHeld ?_
   try simp only [Act.put,sA,sB,sC]
   refine wO 17 ⟨none,.store 44 (.tmp 169) (.tmp 168),0,"ref.go:93",#[⟨16,.data⟩,⟨15,.data⟩,⟨14,.chain⟩,⟨0,.phase⟩,⟨1,.phase⟩,⟨2,.phase⟩,⟨3,.phase⟩,⟨4,.phase⟩,⟨5,.phase⟩,⟨6,.phase⟩,⟨7,.phase⟩,⟨8,.phase⟩,⟨9,.phase⟩,⟨10,.phase⟩,⟨11,.phase⟩,⟨12,.phase⟩,⟨13,.phase⟩,⟨14,.phase⟩,⟨15,.phase⟩],none⟩ (fun K' hK'=>?_)
   refine step_store_cell 44 _ _ (by rfl) (by rfl) (B1 c.threads.length) m (by rfl) (.int .u64 ((z ||| mm : Nat) : Int)) (by first | rfl | simp [*]) size44 rfl _ _ (RD.out.varAt hk2.out) (by rw [cellsN_len];exact hk2.out) ?_
   intro X1 hv ht
   have RS:=RD.out.stored hk2.out hv ht
   have VS:=ht.var VI.out hne2.out
   have hz:=hid (show X1.cell? ⟨sb,1,none⟩ = some (.slice (some ⟨B1 c.threads.length,0,none⟩) li cp1)∧X1.cell? ⟨ib,0,none⟩ = some (.int .i64 x.op)∧X1.cell? ⟨ib,1,none⟩ = some (.int .i64 x.dst)∧X1.cell? ⟨ib,2,none⟩ = some (.int .i64 x.src)∧X1.cell? ⟨ib,3,none⟩ = some (.int .i64 x.rc)∧X1.cell? ⟨ib,4,none⟩ = some (.int .i64 (m : Int))∧X1.cell? ⟨ib,5,none⟩ = some (.int .i64 x.to)∧X1.cell? ⟨ib,6,none⟩ = some (x.iv)∧X1.cell? ⟨ib,7,none⟩ = some (x.xv)∧X1.cell? ⟨W.heap.size + 1,0,none⟩ = some (v0)∧X1.cell? ⟨W.heap.size + 1,1,none⟩ = some (v1)∧X1.cell? ⟨W.heap.size + 1,2,none⟩ = some (v2) from ⟨RS.bo.cell 1 rfl,VS.cell 0 rfl,VS.cell 1 rfl,VS.cell 2 rfl,VS.cell 3 rfl,VS.cell 4 rfl,VS.cell 5 rfl,VS.cell 6 rfl,VS.cell 7 rfl,RS.b1.cell 0 rfl,RS.b1.cell 1 rfl,RS.b1.cell 2 rfl⟩)
   replace RD:=hid RS
   replace VI:=hid VS
   clear hv ht RS VS
   refine hK'.out _ _ hz.out (fun hHeld=>?_)
   clear hK' K'
   try simp only [Act.put,sA,sB,sC]
   refine wpAnyH_done (by kernel_rfl) ?_ _
   clear hHeld
   go_wp2_with fail
   exact HQ.out _ _ _ _ _ _ _ _ _ _ _ _ _ _ _ _ _ _ _ _ _ _ _ _ _ _ _ _ _ _ RD.out (by rw [xcells,hdd.out];exact VI.out)
 ·have hgB : ¬ gloB c x = true:=by unfold gloB;simp [hop]
  rw [if_neg hgB] at HQ
  clear h0 hi hc g hs hL hL1 hb hx hgB
  go_wp2_with fail
  exact HQ.out _ _ _ _ _ _ _ _ _ _ _ _ _ _ _ _ _ _ _ _ _ _ _ _ _ _ _ _ _ _ RD.out VI.out
end Go.Proofs.YtkdpcaoocmbbhaaDoor
