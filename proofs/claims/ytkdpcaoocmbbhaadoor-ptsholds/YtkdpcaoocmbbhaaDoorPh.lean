/- Round: what comes to fields. -/
import Derived.Test.YtkdpcaoocmbbhaaDoorWt
import Derived.Test.YtkdpcaoocmbbhaaDoorM14
namespace Go.Proofs.YtkdpcaoocmbbhaaDoor
open Go.ChangeShapes Go.WideShapes Go.ChangeAt Go.RowKit Go.Deep
set_option linter.unusedVariables false
set_option linter.unusedSimpArgs false

def fldB (c : Cd) (x : Ins) : Bool:=x.op == 6 && meansL (fieldAt c x)
/-- What a store of a field brings, to the sites ahead of one. -/
def brF (c : Cd) (x : Ins) (a mm : Nat) (R1 : List (List Nat)) : Nat→List (List Nat)
 | 0=>R1
 | k + 1=>if a.testBit k = true∧(c.sites.getD k Ste.z).rc = x.rc then bringR (brF c x a mm R1 k) (c.threads.length + 1 + k) x.n.toNat mm else brF c x a mm R1 k
theorem brF_shp (c : Cd) (x : Ins) (a mm : Nat) (R1 : List (List Nat)) : ∀ k,shp (brF c x a mm R1 k) = shp R1
 | 0=>rfl
 | k + 1=>by
  unfold brF
  split
  ·rw [shp_bring];exact brF_shp c x a mm R1 k
  ·exact brF_shp c x a mm R1 k
theorem bring_allU {R : List (List Nat)} {r j m : Nat} (h : AllU R) (hm : m < 2 ^ 64) : AllU (bringR R r j m):=fun r' j'=>by
 unfold bringR
 by_cases hj : j < (R.getD r []).length
 ·rw [gR_set hj]
  split
  ·exact Nat.or_lt_two_pow (h r j) hm
  ·exact h r' j'
 ·have e : setR R r j (gR R r j ||| m) = R:=by
   unfold setR
   have e1 : (R.getD r []).set j (gR R r j ||| m) = R.getD r []:=List.set_eq_of_length_le (by omega)
   rw [e1]
   by_cases hr : r < R.length
   ·have : R.getD r [] = R[r]:=getD_mem' (by simp [hr])
    rw [this]
    simp
   ·rw [List.set_eq_of_length_le (by omega)]
  rw [e]
  exact h r' j'
theorem brF_allU {c : Cd} {x : Ins} {a mm : Nat} {R1 : List (List Nat)} (h : AllU R1) (hm : mm < 2 ^ 64) : ∀ k,AllU (brF c x a mm R1 k)
 | 0=>h
 | k + 1=>by
  unfold brF
  split
  ·exact bring_allU (brF_allU h hm k) hm
  ·exact brF_allU h hm k
set_option maxRecDepth 1000000 in
set_option maxHeartbeats 8000000 in
theorem pieceF {W : World} {sb base top base0 top0 : Nat} {c : Cd} {v0 v1 v2 w0 w1 w2 : Value} {R R1 : List (List Nat)} {V V1 : Nat→Value} {B B1 : Nat→Nat} (hc : c.okW W) (g : GoodP c) (hs : SetsM W base0 top0 c.threads.length c.sites.length v0 v1 v2 R V B) (hL : Low c R) (hL1 : Low c R1) {i k : Nat} {b : Bd} {x : Ins} (hb : c.threads[i]? = some b) (hx : b.code[k]? = some x) {ib : Nat} {u0 u1 u6 u7 u8 u9 u10 u12 u13 u15 u16 u17 u18 u19 u20 u21 u22 u23 u24 u25 u26 u27 u28 u29 u30 u31 u32 u33 u34 u35 u36 u37 u38 u39 u40 u41 u42 u43 u44 u45 u46 u47 u48 u49 u50 u51 u52 u53 u54 u55 u56 u57 u58 u59 u60 u61 u62 u63 u64 u65 u66 u67 u68 u69 u70 u71 u72 u73 u74 u75 u76 u77 u78 u79 u80 u81 u82 u83 u84 u85 u86 u87 u88 u89 u90 u91 u92 u93 u94 u95 u96 u97 u98 u99 u100 u101 u102 u103 u104 u105 u106 u107 u108 u109 u110 u111 u112 u113 u114 u115 u116 u117 u118 u119 u120 u121 u122 u123 u124 u125 u126 u127 u128 u129 u130 u131 u132 u133 u134 u135 u136 u137 u138 u139 u140 u141 u142 u143 u144 u145 u146 u147 u148 u149 u150 u151 u152 u153 u154 u155 u156 u157 u158 u159 u160 u161 u162 u163 u164 u165 u166 u167 u168 u169 u170 u171 u172 u173 u174 u175 u176 u177 u178 u179 u180 u181 u182 u183 u184 u185 u186 u187 u188 u189 u190 u191 u192 u193 u194 u195 u196 u197 u198 u199 u200 u201 u202 u203 u204 u205 u206 u207 u208 u209 u210 u211 u212 u213 u214 u215 u216 u217 u218 u219 u220 u221 u222 u223 u224 u225 u226 u227 u228 u229 u230 u231 u232 u233 u234 u235 u236 u237 u238 : Value} {X : World}
  (h0 : Rnd W sb base top c v0 v1 v2 w0 w1 w2 R1 V1 B1 X) (hi : VarAt X ib x.cells 50) (hib : sb < ib) {Q : Exit→Act→World→Prop} (hP : ∀ c (a : Act) i v w,Q (.panic c) (a.put i v) w→Q (.panic c) a w)
  (hQ : ∀ (u15 u16 u170 u171 u172 u173 u174 u175 u176 u177 u178 u179 u180 u181 u182 u183 u184 u185 u186 u187 u188 u189 u190 u191 u192 u193 u194 u195 u196 u197 u198 u199 u200 u201 u202 u203 u204 u205 u206 u207 u208 u209 u210 u211 u212 u213 u214 u215 u216 u217 u218 u219 u220 u221 u222 u223 u224 u225 u226 u227 u228 u229 u230 u231 u232 u233 u234 u235 : Value) (X1 : World),Rnd W sb base top c v0 v1 v2 w0 w1 w2 (if fldB c x = true then brF c x (gR R i x.src.toNat) (meant R i (usesN x.items)) R1 c.sites.length else R1) V1 B1 X1→VarAt X1 ib x.cells 50→Q .normal ⟨#[u0,u1,.pointer (some ⟨W.heap.size,0,none⟩),.pointer (some ⟨W.heap.size + 1,0,none⟩),.pointer (some ⟨W.heap.size + 2,0,none⟩),.pointer (some ⟨sb,0,none⟩),u6,u7,u8,u9,u10,.int .i64 (i : Int),u12,u13,.pointer (some ⟨ib,0,none⟩),u15,u16,u17,u18,u19,u20,u21,u22,u23,u24,u25,u26,u27,u28,u29,u30,u31,u32,u33,u34,u35,u36,u37,u38,u39,u40,u41,u42,u43,u44,u45,u46,u47,u48,u49,u50,u51,u52,u53,u54,u55,u56,u57,u58,u59,u60,u61,u62,u63,u64,u65,u66,u67,u68,u69,u70,u71,u72,u73,u74,u75,u76,u77,u78,u79,u80,u81,u82,u83,u84,u85,u86,u87,u88,u89,u90,u91,u92,u93,u94,u95,u96,u97,u98,u99,u100,u101,u102,u103,u104,u105,u106,u107,u108,u109,u110,u111,u112,u113,u114,u115,u116,u117,u118,u119,u120,u121,u122,u123,u124,u125,u126,u127,u128,u129,u130,u131,u132,u133,u134,u135,u136,u137,u138,u139,u140,u141,u142,u143,u144,u145,u146,u147,u148,u149,u150,u151,u152,u153,u154,u155,u156,u157,u158,u159,u160,u161,u162,u163,u164,u165,u166,u167,u168,u169,u170,u171,u172,u173,u174,u175,u176,u177,u178,u179,u180,u181,u182,u183,u184,u185,u186,u187,u188,u189,u190,u191,u192,u193,u194,u195,u196,u197,u198,u199,u200,u201,u202,u203,u204,u205,u206,u207,u208,u209,u210,u211,u212,u213,u214,u215,u216,u217,u218,u219,u220,u221,u222,u223,u224,u225,u226,u227,u228,u229,u230,u231,u232,u233,u234,u235,u236,u237,u238],[]⟩ X1) :
  Code.wp Tryd.prog (rgt (rgt (rgt (inb (lft (rgt (rgt (inb (inb (rgt (rgt (inb (lft (rgt (rgt (inb (inb (rgt (lft (rgt (rgt (rgt (rgt (rgt (Tryd.f14.body.getD .skip))))))))))))))))))))))))) Q ⟨#[u0,u1,.pointer (some ⟨W.heap.size,0,none⟩),.pointer (some ⟨W.heap.size + 1,0,none⟩),.pointer (some ⟨W.heap.size + 2,0,none⟩),.pointer (some ⟨sb,0,none⟩),u6,u7,u8,u9,u10,.int .i64 (i : Int),u12,u13,.pointer (some ⟨ib,0,none⟩),u15,u16,u17,u18,u19,u20,u21,u22,u23,u24,u25,u26,u27,u28,u29,u30,u31,u32,u33,u34,u35,u36,u37,u38,u39,u40,u41,u42,u43,u44,u45,u46,u47,u48,u49,u50,u51,u52,u53,u54,u55,u56,u57,u58,u59,u60,u61,u62,u63,u64,u65,u66,u67,u68,u69,u70,u71,u72,u73,u74,u75,u76,u77,u78,u79,u80,u81,u82,u83,u84,u85,u86,u87,u88,u89,u90,u91,u92,u93,u94,u95,u96,u97,u98,u99,u100,u101,u102,u103,u104,u105,u106,u107,u108,u109,u110,u111,u112,u113,u114,u115,u116,u117,u118,u119,u120,u121,u122,u123,u124,u125,u126,u127,u128,u129,u130,u131,u132,u133,u134,u135,u136,u137,u138,u139,u140,u141,u142,u143,u144,u145,u146,u147,u148,u149,u150,u151,u152,u153,u154,u155,u156,u157,u158,u159,u160,u161,u162,u163,u164,u165,u166,u167,u168,u169,u170,u171,u172,u173,u174,u175,u176,u177,u178,u179,u180,u181,u182,u183,u184,u185,u186,u187,u188,u189,u190,u191,u192,u193,u194,u195,u196,u197,u198,u199,u200,u201,u202,u203,u204,u205,u206,u207,u208,u209,u210,u211,u212,u213,u214,u215,u216,u217,u218,u219,u220,u221,u222,u223,u224,u225,u226,u227,u228,u229,u230,u231,u232,u233,u234,u235,u236,u237,u238],[]⟩ X:=by
 conv=>arg 2;whnf
 have HQ:=hid hQ
 have HP:=hid hP
 clear hQ hP
 have RD:=hid h0.drew
 have VI:=hid (hi.kept (Below.refl _ _).drew)
 by_cases hop : x.op = 6
 rotate_left
 ·have hgB : ¬ fldB c x = true:=by unfold fldB;simp [hop]
  rw [if_neg hgB] at HQ
  rw [xcells] at VI
  clear h0 hi hc g hs hL hL1 hb hx hgB
  have hq6 : (x.op == 6) = false:=by simpa using hop
  go_wp2_with fail
  refine wp_region_held_drew (S:=fun (w' : World)=>w'.cell? ⟨ib,0,none⟩ = some (.int .i64 x.op)∧w'.cell? ⟨ib,1,none⟩ = some (.int .i64 x.dst)∧w'.cell? ⟨ib,2,none⟩ = some (.int .i64 x.src)∧w'.cell? ⟨ib,3,none⟩ = some (.int .i64 x.rc)∧w'.cell? ⟨ib,4,none⟩ = some (.int .i64 x.n)∧w'.cell? ⟨ib,5,none⟩ = some (.int .i64 x.to)∧w'.cell? ⟨ib,6,none⟩ = some (x.iv)∧w'.cell? ⟨ib,7,none⟩ = some (x.xv)) (by kernel_rfl) (⟨VI.out.cell 0 rfl,VI.out.cell 1 rfl,VI.out.cell 2 rfl,VI.out.cell 3 rfl,VI.out.cell 4 rfl,VI.out.cell 5 rfl,VI.out.cell 6 rfl,VI.out.cell 7 rfl⟩) (fun hHeld=>?_)
  refine wP 0 ⟨some 170,.fieldAddr 50 (.tmp 14) 0,0,"ref.go:95",#[],none⟩ HP hHeld ?_
  try simp only [Act.put,sA,sB,sC]
  refine wP 1 ⟨some 171,.load 3 (.tmp 170),3,"ref.go:95",#[⟨0,.data⟩],none⟩ HP hHeld ?_
  try simp only [Act.put,sA,sB,sC]
  refine wP 2 ⟨some 172,.binOp .eql 3 (.tmp 171) (.const (.int .i64 6)) 3,4,"ref.go:95",#[⟨1,.data⟩],none⟩ HP hHeld ?_
  try simp only [Act.put,sA,sB,sC]
  refine wP 3 ⟨some 173,.move (.tmp 172),4,"ref.go:95",#[⟨2,.data⟩],none⟩ HP hHeld ?_
  try simp only [Act.put,sA,sB,sC]
  refine wQ 4 ⟨some 174,.fieldAddr 28 (.tmp 2) 0,0,"ref.go:95",#[⟨3,.guard⟩],some (3,true)⟩ HP hHeld ?_
  try simp only [Act.put,sA,sB,sC]
  refine wQ 5 ⟨some 175,.load 22 (.tmp 174),22,"ref.go:95",#[⟨4,.data⟩,⟨3,.guard⟩],some (3,true)⟩ HP hHeld ?_
  try simp only [Act.put,sA,sB,sC]
  refine wQ 6 ⟨some 176,.fieldAddr 50 (.tmp 14) 3,0,"ref.go:95",#[⟨3,.guard⟩],some (3,true)⟩ HP hHeld ?_
  try simp only [Act.put,sA,sB,sC]
  refine wQ 7 ⟨some 177,.load 3 (.tmp 176),3,"ref.go:95",#[⟨6,.data⟩,⟨3,.guard⟩],some (3,true)⟩ HP hHeld ?_
  try simp only [Act.put,sA,sB,sC]
  refine wQ 8 ⟨some 178,.indexAddr 22 (.tmp 175) (.tmp 177),0,"ref.go:95",#[⟨5,.data⟩,⟨7,.data⟩,⟨3,.guard⟩],some (3,true)⟩ HP hHeld ?_
  try simp only [Act.put,sA,sB,sC]
  refine wQ 9 ⟨some 179,.load 23 (.tmp 178),23,"ref.go:95",#[⟨8,.data⟩,⟨3,.guard⟩],some (3,true)⟩ HP hHeld ?_
  try simp only [Act.put,sA,sB,sC]
  refine wQ 10 ⟨some 180,.fieldAddr 50 (.tmp 14) 4,0,"ref.go:95",#[⟨3,.guard⟩],some (3,true)⟩ HP hHeld ?_
  try simp only [Act.put,sA,sB,sC]
  refine wQ 11 ⟨some 181,.load 3 (.tmp 180),3,"ref.go:95",#[⟨10,.data⟩,⟨3,.guard⟩],some (3,true)⟩ HP hHeld ?_
  try simp only [Act.put,sA,sB,sC]
  refine wQ 12 ⟨some 182,.indexAddr 23 (.tmp 179) (.tmp 181),0,"ref.go:95",#[⟨9,.data⟩,⟨11,.data⟩,⟨3,.guard⟩],some (3,true)⟩ HP hHeld ?_
  try simp only [Act.put,sA,sB,sC]
  refine wQ 13 ⟨some 183,.load 56 (.tmp 182),56,"ref.go:95",#[⟨12,.data⟩,⟨3,.guard⟩],some (3,true)⟩ HP hHeld ?_
  try simp only [Act.put,sA,sB,sC]
  refine wO 14 ⟨some 184,.call ⟨.value (.func 30),#[.tmp 183],#[56]⟩,4,"ref.go:95",#[⟨13,.data⟩,⟨3,.chain⟩,⟨3,.guard⟩],some (3,true)⟩ (fun K' hK'=>?_)
  go_simp
  refine hK'.out _ _ hHeld (fun hHeld=>?_)
  clear hK' K'
  try simp only [Act.put,sA,sB,sC]
  refine wP 15 ⟨some 185,.pick (.tmp 173) (.tmp 184) (.const (.bool false)),4,"ref.go:95",#[⟨3,.data⟩,⟨14,.data⟩],none⟩ HP hHeld ?_
  try simp only [Act.put,sA,sB,sC]
  refine wpAnyH_done (by kernel_rfl) ?_ _
  clear hHeld
  go_wp2_with fail
  exact HQ.out _ _ _ _ _ _ _ _ _ _ _ _ _ _ _ _ _ _ _ _ _ _ _ _ _ _ _ _ _ _ _ _ _ _ _ _ _ _ _ _ _ _ _ _ _ _ _ _ _ _ _ _ _ _ _ _ _ _ _ _ _ _ _ _ _ _ _ _ _ RD.out VI.out
 have F:=ins_facts g hb hx
 obtain ⟨r,n,hr,hrl,hn,hnl⟩:=F.f (.inr hop)
 obtain ⟨sk,hsk,hsl⟩:=F.s (by rw [hop];rfl)
 obtain ⟨q,hq⟩ : ∃ q,c.recs[r]? = some q:=⟨c.recs[r],by simp [hrl]⟩
 have eq : c.recs.getD r Rl.z = q:=by simp [List.getD,hq]
 rw [eq] at hnl
 obtain ⟨l,hl⟩ : ∃ l,q.flds[n]? = some l:=⟨q.flds[n],by simp [hnl]⟩
 have hfl : fieldAt c x = l:=by unfold fieldAt;rw [hr,hn,Int.toNat_natCast,Int.toNat_natCast,eq];simp [List.getD,hl]
 obtain ⟨ra,p0,re,hrr⟩:=RowOf.at hc.1
 obtain ⟨q',rb,ro,hq',rfl,rlt0,hra,okq⟩:=hrr r hrl
 rw [hq] at hq';cases hq'
 obtain ⟨fa,fp,fe,hgr⟩:=locs_at okq
 obtain ⟨fb,fo,rfl,flt0,_,c00,c10,c20⟩:=hgr n l hl
 have cr0 : W.cell? ⟨rb,ro + r,none⟩ = some (.slice (some ⟨fb,fo,none⟩) q.flds.length fp):=by
  have:=hra 0 _ rfl
  rw [Nat.mul_one,fe] at this
  exact this
 have cr:=hid cr0
 have c0:=hid c00
 have c1:=hid c10
 have c2:=hid c20
 have E0:=hid re
 have rlt:=hid rlt0
 have flt:=hid flt0
 have hgB : fldB c x = meansL l:=by unfold fldB;rw [hop,hfl];rfl
 have hnI : (n : Int) < (q.flds.length : Int):=by omega
 have hrI : (r : Int) < (c.recs.length : Int):=by omega
 replace VI:=hid (show VarAt X.drew ib [.int .i64 6,.int .i64 x.dst,.int .i64 (sk : Int),.int .i64 (r : Int),.int .i64 (n : Int),.int .i64 x.to,x.iv,x.xv] 50 from by have:=VI.out;rw [xcells,hop,hsk,hr,hn] at this;exact this)
 have CM:=hid (fun Y=>means_any l Y)
 cases hm : meansL l
 ·rw [hm] at hgB CM
  simp only [Loc.cells] at CM
  rw [if_neg (by rw [hgB];decide)] at HQ
  replace hop:=hid hop
  replace hsk:=hid hsk
  replace hr:=hid hr
  replace hn:=hid hn
  clear h0 hi hc g hs hL hL1 hb hx F hrl hnl hsl hq eq hl hfl re hrr hra okq fe hgr cr0 c00 c10 c20 rlt0 flt0 hgB hm
  go_wp2_with fail
  refine wp_region_held_drew (S:=fun (w' : World)=>w'.cell? ⟨ib,0,none⟩ = some (.int .i64 6)∧w'.cell? ⟨ib,1,none⟩ = some (.int .i64 x.dst)∧w'.cell? ⟨ib,2,none⟩ = some (.int .i64 (sk : Int))∧w'.cell? ⟨ib,3,none⟩ = some (.int .i64 (r : Int))∧w'.cell? ⟨ib,4,none⟩ = some (.int .i64 (n : Int))∧w'.cell? ⟨ib,5,none⟩ = some (.int .i64 x.to)∧w'.cell? ⟨ib,6,none⟩ = some (x.iv)∧w'.cell? ⟨ib,7,none⟩ = some (x.xv)∧w'.cell? ⟨W.heap.size,0,none⟩ = some (.slice (some ⟨rb,ro,none⟩) c.recs.length p0)∧w'.cell? ⟨rb,ro + r,none⟩ = some (.slice (some ⟨fb,fo,none⟩) q.flds.length fp)∧w'.cell? ⟨fb,fo + n * 3,none⟩ = some (.int .i64 l.kind)∧w'.cell? ⟨fb,fo + n * 3 + 1,none⟩ = some (.int .i64 l.rc)∧w'.cell? ⟨fb,fo + n * 3 + 2,none⟩ = some (.bool l.once)) (by kernel_rfl) (⟨VI.out.cell 0 rfl,VI.out.cell 1 rfl,VI.out.cell 2 rfl,VI.out.cell 3 rfl,VI.out.cell 4 rfl,VI.out.cell 5 rfl,VI.out.cell 6 rfl,VI.out.cell 7 rfl,(RD.out.b0.cell 0 rfl).trans (congrArg some E0.out),(RD.out.bel.cell (p:=⟨rb,ro + r,none⟩) rlt.out).trans cr.out,(RD.out.bel.cell (p:=⟨fb,fo + n * 3,none⟩) flt.out).trans c0.out,(RD.out.bel.cell (p:=⟨fb,fo + n * 3 + 1,none⟩) flt.out).trans c1.out,(RD.out.bel.cell (p:=⟨fb,fo + n * 3 + 2,none⟩) flt.out).trans c2.out⟩) (fun hHeld=>?_)
  refine wP 0 ⟨some 170,.fieldAddr 50 (.tmp 14) 0,0,"ref.go:95",#[],none⟩ HP hHeld ?_
  try simp only [Act.put,sA,sB,sC]
  refine wP 1 ⟨some 171,.load 3 (.tmp 170),3,"ref.go:95",#[⟨0,.data⟩],none⟩ HP hHeld ?_
  try simp only [Act.put,sA,sB,sC]
  refine wP 2 ⟨some 172,.binOp .eql 3 (.tmp 171) (.const (.int .i64 6)) 3,4,"ref.go:95",#[⟨1,.data⟩],none⟩ HP hHeld ?_
  try simp only [Act.put,sA,sB,sC]
  refine wP 3 ⟨some 173,.move (.tmp 172),4,"ref.go:95",#[⟨2,.data⟩],none⟩ HP hHeld ?_
  try simp only [Act.put,sA,sB,sC]
  refine wP 4 ⟨some 174,.fieldAddr 28 (.tmp 2) 0,0,"ref.go:95",#[⟨3,.guard⟩],some (3,true)⟩ HP hHeld ?_
  try simp only [Act.put,sA,sB,sC]
  refine wP 5 ⟨some 175,.load 22 (.tmp 174),22,"ref.go:95",#[⟨4,.data⟩,⟨3,.guard⟩],some (3,true)⟩ HP hHeld ?_
  try simp only [Act.put,sA,sB,sC]
  refine wP 6 ⟨some 176,.fieldAddr 50 (.tmp 14) 3,0,"ref.go:95",#[⟨3,.guard⟩],some (3,true)⟩ HP hHeld ?_
  try simp only [Act.put,sA,sB,sC]
  refine wP 7 ⟨some 177,.load 3 (.tmp 176),3,"ref.go:95",#[⟨6,.data⟩,⟨3,.guard⟩],some (3,true)⟩ HP hHeld ?_
  try simp only [Act.put,sA,sB,sC]
  refine wP 8 ⟨some 178,.indexAddr 22 (.tmp 175) (.tmp 177),0,"ref.go:95",#[⟨5,.data⟩,⟨7,.data⟩,⟨3,.guard⟩],some (3,true)⟩ HP hHeld ?_
  try simp only [Act.put,sA,sB,sC]
  refine wP 9 ⟨some 179,.load 23 (.tmp 178),23,"ref.go:95",#[⟨8,.data⟩,⟨3,.guard⟩],some (3,true)⟩ HP hHeld ?_
  try simp only [Act.put,sA,sB,sC]
  refine wP 10 ⟨some 180,.fieldAddr 50 (.tmp 14) 4,0,"ref.go:95",#[⟨3,.guard⟩],some (3,true)⟩ HP hHeld ?_
  try simp only [Act.put,sA,sB,sC]
  refine wP 11 ⟨some 181,.load 3 (.tmp 180),3,"ref.go:95",#[⟨10,.data⟩,⟨3,.guard⟩],some (3,true)⟩ HP hHeld ?_
  try simp only [Act.put,sA,sB,sC]
  refine wP 12 ⟨some 182,.indexAddr 23 (.tmp 179) (.tmp 181),0,"ref.go:95",#[⟨9,.data⟩,⟨11,.data⟩,⟨3,.guard⟩],some (3,true)⟩ HP hHeld ?_
  try simp only [Act.put,sA,sB,sC]
  refine wP 13 ⟨some 183,.load 56 (.tmp 182),56,"ref.go:95",#[⟨12,.data⟩,⟨3,.guard⟩],some (3,true)⟩ HP hHeld ?_
  try simp only [Act.put,sA,sB,sC]
  refine wO 14 ⟨some 184,.call ⟨.value (.func 30),#[.tmp 183],#[56]⟩,4,"ref.go:95",#[⟨13,.data⟩,⟨3,.chain⟩,⟨3,.guard⟩],some (3,true)⟩ (fun K' hK'=>?_)
  go_simp
  go_at_call 30
  refine Calls.mono (CM.out _) ?_
  rintro _ y ⟨rfl,hk⟩
  replace RD:=hid (RD.out.kept hk)
  replace VI:=hid (VI.out.kept hk)
  have hz:=hid (show y.cell? ⟨ib,0,none⟩ = some (.int .i64 6)∧y.cell? ⟨ib,1,none⟩ = some (.int .i64 x.dst)∧y.cell? ⟨ib,2,none⟩ = some (.int .i64 (sk : Int))∧y.cell? ⟨ib,3,none⟩ = some (.int .i64 (r : Int))∧y.cell? ⟨ib,4,none⟩ = some (.int .i64 (n : Int))∧y.cell? ⟨ib,5,none⟩ = some (.int .i64 x.to)∧y.cell? ⟨ib,6,none⟩ = some (x.iv)∧y.cell? ⟨ib,7,none⟩ = some (x.xv)∧y.cell? ⟨W.heap.size,0,none⟩ = some (.slice (some ⟨rb,ro,none⟩) c.recs.length p0)∧y.cell? ⟨rb,ro + r,none⟩ = some (.slice (some ⟨fb,fo,none⟩) q.flds.length fp)∧y.cell? ⟨fb,fo + n * 3,none⟩ = some (.int .i64 l.kind)∧y.cell? ⟨fb,fo + n * 3 + 1,none⟩ = some (.int .i64 l.rc)∧y.cell? ⟨fb,fo + n * 3 + 2,none⟩ = some (.bool l.once) from ⟨VI.out.cell 0 rfl,VI.out.cell 1 rfl,VI.out.cell 2 rfl,VI.out.cell 3 rfl,VI.out.cell 4 rfl,VI.out.cell 5 rfl,VI.out.cell 6 rfl,VI.out.cell 7 rfl,(RD.out.b0.cell 0 rfl).trans (congrArg some E0.out),(RD.out.bel.cell (p:=⟨rb,ro + r,none⟩) rlt.out).trans cr.out,(RD.out.bel.cell (p:=⟨fb,fo + n * 3,none⟩) flt.out).trans c0.out,(RD.out.bel.cell (p:=⟨fb,fo + n * 3 + 1,none⟩) flt.out).trans c1.out,(RD.out.bel.cell (p:=⟨fb,fo + n * 3 + 2,none⟩) flt.out).trans c2.out⟩)
  clear hk
  refine hK'.out _ _ hz.out (fun hHeld=>?_)
  clear hK' K'
  try simp only [Act.put,sA,sB,sC]
  refine wP 15 ⟨some 185,.pick (.tmp 173) (.tmp 184) (.const (.bool false)),4,"ref.go:95",#[⟨3,.data⟩,⟨14,.data⟩],none⟩ HP hHeld ?_
  try simp only [Act.put,sA,sB,sC]
  refine wpAnyH_done (by kernel_rfl) ?_ _
  clear hHeld
  go_wp2_with fail
  exact HQ.out _ _ _ _ _ _ _ _ _ _ _ _ _ _ _ _ _ _ _ _ _ _ _ _ _ _ _ _ _ _ _ _ _ _ _ _ _ _ _ _ _ _ _ _ _ _ _ _ _ _ _ _ _ _ _ _ _ _ _ _ _ _ _ _ _ _ _ _ _ RD.out (by rw [xcells,hop.out,hsk.out,hr.out,hn.out];exact VI.out)
 ·rw [hm] at hgB CM
  simp only [Loc.cells] at CM
  rw [if_pos hgB,hsk,Int.toNat_natCast] at HQ
  have hit:=(List.getElem?_eq_some_iff.1 hb).1
  have IP:=items_pre hc g hL hb hx
  have IK:=ins_okw hc hb hx
  have CI:=hid (fun Y (hY : Below W.heap.size W Y)=>items_any (hs.kept hY) (hL.allU g) i hit x.iv x.items (Ins.kept IK hY).2.1 IP.1 IP.2)
  have UU:=hL.allU g
  have hmm:=meant_lt UU i (usesN x.items)
  have haa:=UU i sk
  have hsr : sk < (R.getD i []).length:=by rw [row_at hL,shape_slots c hb];exact hsl
  have BS:=hid (fun k=>(by
   show (if _ then _ else _) = _
   rw [hr,hn,Int.toNat_natCast] : brF c x (gR R i sk) (meant R i (usesN x.items)) R1 (k + 1) = if (gR R i sk).testBit k = true∧(c.sites.getD k Ste.z).rc = (r : Int) then bringR (brF c x (gR R i sk) (meant R i (usesN x.items)) R1 k) (c.threads.length + 1 + k) n (meant R i (usesN x.items)) else brF c x (gR R i sk) (meant R i (usesN x.items)) R1 k))
  have BSH:=hid (fun k=>(brF_shp c x (gR R i sk) (meant R i (usesN x.items)) R1 k).trans hL1.1)
  have BU:=hid (fun k=>brF_allU (c:=c) (x:=x) (a:=gR R i sk) (hL1.allU g) hmm k)
  have B0 : Hid (brF c x (gR R i sk) (meant R i (usesN x.items)) R1 0 = R1):=hid rfl
  have SF:=hid (fun k s (h : c.sites[k]? = some s)=>shape_site c h)
  have hS64:=g.l4
  have FQ : Hid (∀ s : Ste,s.rc = (r : Int)→fldN c s = q.flds.length):=hid (fun s e=>by
   unfold fldN
   rw [e,if_neg (by omega),Int.toNat_natCast,eq])
  obtain ⟨ea,p3,se,hsr0⟩:=RowOf.at hc.2.2.2.1
  have HSR:=hid hsr0
  have E3:=hid se
  obtain ⟨t0,m0,r0,t1,m1,r1,t2,m2,r2,rfl,rfl,rfl⟩:=h0.sets.ones
  obtain ⟨ob,oo,oc,a1,cp,rfl,-,-,hob0,hc0,-,hin0⟩:=hs.rowT hit
  obtain ⟨rfl,hvs,hrd0⟩:=hin0 sk hsr
  have hob:=hid hob0
  have hcell:=hid hc0
  have hlt:=hid hvs.lt
  have hrd:=hid hrd0
  have hib2:=hid (And.intro hib h0.ab)
  have hskI : (sk : Int) < ((R.getD i []).length : Int):=by omega
  have hiI : (i : Int) < (c.threads.length : Int):=by omega
  generalize hzz : gR R i sk = aa at *
  generalize hmq : meant R i (usesN x.items) = mm at *
  generalize hls : (R.getD i []).length = ls at *
  generalize hbf : brF c x aa mm R1 = bf at *
  replace RD : Hid (Rnd W sb base top c _ _ _ _ _ _ (bf 0) V1 B1 X.drew):=hid (by rw [B0.out];exact RD.out)
  replace hop:=hid hop
  replace hsk:=hid hsk
  replace hr:=hid hr
  replace hn:=hid hn
  replace hnl:=hid hnl
  replace haa:=hid haa
  replace hmm:=hid hmm
  clear h0 hi hc g hs hL hL1 hb hx F hrl hsl hq eq hl hfl re hrr hra okq fe hgr cr0 c00 c10 c20 rlt0 flt0 hgB hm hin0 hvs hrd0 hsr hzz hmq hls hbf hc0 hob0 UU hsr0 se hib IP IK
  go_wp2_with fail
  refine wp_region_held_drew (S:=fun (w' : World)=>w'.cell? ⟨ib,0,none⟩ = some (.int .i64 6)∧w'.cell? ⟨ib,1,none⟩ = some (.int .i64 x.dst)∧w'.cell? ⟨ib,2,none⟩ = some (.int .i64 (sk : Int))∧w'.cell? ⟨ib,3,none⟩ = some (.int .i64 (r : Int))∧w'.cell? ⟨ib,4,none⟩ = some (.int .i64 (n : Int))∧w'.cell? ⟨ib,5,none⟩ = some (.int .i64 x.to)∧w'.cell? ⟨ib,6,none⟩ = some (x.iv)∧w'.cell? ⟨ib,7,none⟩ = some (x.xv)∧w'.cell? ⟨W.heap.size,0,none⟩ = some (.slice (some ⟨rb,ro,none⟩) c.recs.length p0)∧w'.cell? ⟨rb,ro + r,none⟩ = some (.slice (some ⟨fb,fo,none⟩) q.flds.length fp)∧w'.cell? ⟨fb,fo + n * 3,none⟩ = some (.int .i64 l.kind)∧w'.cell? ⟨fb,fo + n * 3 + 1,none⟩ = some (.int .i64 l.rc)∧w'.cell? ⟨fb,fo + n * 3 + 2,none⟩ = some (.bool l.once)) (by kernel_rfl) (⟨VI.out.cell 0 rfl,VI.out.cell 1 rfl,VI.out.cell 2 rfl,VI.out.cell 3 rfl,VI.out.cell 4 rfl,VI.out.cell 5 rfl,VI.out.cell 6 rfl,VI.out.cell 7 rfl,(RD.out.b0.cell 0 rfl).trans (congrArg some E0.out),(RD.out.bel.cell (p:=⟨rb,ro + r,none⟩) rlt.out).trans cr.out,(RD.out.bel.cell (p:=⟨fb,fo + n * 3,none⟩) flt.out).trans c0.out,(RD.out.bel.cell (p:=⟨fb,fo + n * 3 + 1,none⟩) flt.out).trans c1.out,(RD.out.bel.cell (p:=⟨fb,fo + n * 3 + 2,none⟩) flt.out).trans c2.out⟩) (fun hHeld=>?_)
  refine wP 0 ⟨some 170,.fieldAddr 50 (.tmp 14) 0,0,"ref.go:95",#[],none⟩ HP hHeld ?_
  try simp only [Act.put,sA,sB,sC]
  refine wP 1 ⟨some 171,.load 3 (.tmp 170),3,"ref.go:95",#[⟨0,.data⟩],none⟩ HP hHeld ?_
  try simp only [Act.put,sA,sB,sC]
  refine wP 2 ⟨some 172,.binOp .eql 3 (.tmp 171) (.const (.int .i64 6)) 3,4,"ref.go:95",#[⟨1,.data⟩],none⟩ HP hHeld ?_
  try simp only [Act.put,sA,sB,sC]
  refine wP 3 ⟨some 173,.move (.tmp 172),4,"ref.go:95",#[⟨2,.data⟩],none⟩ HP hHeld ?_
  try simp only [Act.put,sA,sB,sC]
  refine wP 4 ⟨some 174,.fieldAddr 28 (.tmp 2) 0,0,"ref.go:95",#[⟨3,.guard⟩],some (3,true)⟩ HP hHeld ?_
  try simp only [Act.put,sA,sB,sC]
  refine wP 5 ⟨some 175,.load 22 (.tmp 174),22,"ref.go:95",#[⟨4,.data⟩,⟨3,.guard⟩],some (3,true)⟩ HP hHeld ?_
  try simp only [Act.put,sA,sB,sC]
  refine wP 6 ⟨some 176,.fieldAddr 50 (.tmp 14) 3,0,"ref.go:95",#[⟨3,.guard⟩],some (3,true)⟩ HP hHeld ?_
  try simp only [Act.put,sA,sB,sC]
  refine wP 7 ⟨some 177,.load 3 (.tmp 176),3,"ref.go:95",#[⟨6,.data⟩,⟨3,.guard⟩],some (3,true)⟩ HP hHeld ?_
  try simp only [Act.put,sA,sB,sC]
  refine wP 8 ⟨some 178,.indexAddr 22 (.tmp 175) (.tmp 177),0,"ref.go:95",#[⟨5,.data⟩,⟨7,.data⟩,⟨3,.guard⟩],some (3,true)⟩ HP hHeld ?_
  try simp only [Act.put,sA,sB,sC]
  refine wP 9 ⟨some 179,.load 23 (.tmp 178),23,"ref.go:95",#[⟨8,.data⟩,⟨3,.guard⟩],some (3,true)⟩ HP hHeld ?_
  try simp only [Act.put,sA,sB,sC]
  refine wP 10 ⟨some 180,.fieldAddr 50 (.tmp 14) 4,0,"ref.go:95",#[⟨3,.guard⟩],some (3,true)⟩ HP hHeld ?_
  try simp only [Act.put,sA,sB,sC]
  refine wP 11 ⟨some 181,.load 3 (.tmp 180),3,"ref.go:95",#[⟨10,.data⟩,⟨3,.guard⟩],some (3,true)⟩ HP hHeld ?_
  try simp only [Act.put,sA,sB,sC]
  refine wP 12 ⟨some 182,.indexAddr 23 (.tmp 179) (.tmp 181),0,"ref.go:95",#[⟨9,.data⟩,⟨11,.data⟩,⟨3,.guard⟩],some (3,true)⟩ HP hHeld ?_
  try simp only [Act.put,sA,sB,sC]
  refine wP 13 ⟨some 183,.load 56 (.tmp 182),56,"ref.go:95",#[⟨12,.data⟩,⟨3,.guard⟩],some (3,true)⟩ HP hHeld ?_
  try simp only [Act.put,sA,sB,sC]
  refine wO 14 ⟨some 184,.call ⟨.value (.func 30),#[.tmp 183],#[56]⟩,4,"ref.go:95",#[⟨13,.data⟩,⟨3,.chain⟩,⟨3,.guard⟩],some (3,true)⟩ (fun K' hK'=>?_)
  go_simp
  go_at_call 30
  refine Calls.mono (CM.out _) ?_
  rintro _ y ⟨rfl,hk⟩
  replace RD:=hid (RD.out.kept hk)
  replace VI:=hid (VI.out.kept hk)
  have hz:=hid (show y.cell? ⟨ib,0,none⟩ = some (.int .i64 6)∧y.cell? ⟨ib,1,none⟩ = some (.int .i64 x.dst)∧y.cell? ⟨ib,2,none⟩ = some (.int .i64 (sk : Int))∧y.cell? ⟨ib,3,none⟩ = some (.int .i64 (r : Int))∧y.cell? ⟨ib,4,none⟩ = some (.int .i64 (n : Int))∧y.cell? ⟨ib,5,none⟩ = some (.int .i64 x.to)∧y.cell? ⟨ib,6,none⟩ = some (x.iv)∧y.cell? ⟨ib,7,none⟩ = some (x.xv)∧y.cell? ⟨W.heap.size,0,none⟩ = some (.slice (some ⟨rb,ro,none⟩) c.recs.length p0)∧y.cell? ⟨rb,ro + r,none⟩ = some (.slice (some ⟨fb,fo,none⟩) q.flds.length fp)∧y.cell? ⟨fb,fo + n * 3,none⟩ = some (.int .i64 l.kind)∧y.cell? ⟨fb,fo + n * 3 + 1,none⟩ = some (.int .i64 l.rc)∧y.cell? ⟨fb,fo + n * 3 + 2,none⟩ = some (.bool l.once) from ⟨VI.out.cell 0 rfl,VI.out.cell 1 rfl,VI.out.cell 2 rfl,VI.out.cell 3 rfl,VI.out.cell 4 rfl,VI.out.cell 5 rfl,VI.out.cell 6 rfl,VI.out.cell 7 rfl,(RD.out.b0.cell 0 rfl).trans (congrArg some E0.out),(RD.out.bel.cell (p:=⟨rb,ro + r,none⟩) rlt.out).trans cr.out,(RD.out.bel.cell (p:=⟨fb,fo + n * 3,none⟩) flt.out).trans c0.out,(RD.out.bel.cell (p:=⟨fb,fo + n * 3 + 1,none⟩) flt.out).trans c1.out,(RD.out.bel.cell (p:=⟨fb,fo + n * 3 + 2,none⟩) flt.out).trans c2.out⟩)
  clear hk
  refine hK'.out _ _ hz.out (fun hHeld=>?_)
  clear hK' K'
  try simp only [Act.put,sA,sB,sC]
  refine wP 15 ⟨some 185,.pick (.tmp 173) (.tmp 184) (.const (.bool false)),4,"ref.go:95",#[⟨3,.data⟩,⟨14,.data⟩],none⟩ HP hHeld ?_
  try simp only [Act.put,sA,sB,sC]
  refine wpAnyH_done (by kernel_rfl) ?_ _
  clear hHeld
  skip
  have e3:=(RD.out.b0.cell 3 rfl).trans (congrArg some E3.out)
  clear CM hz
  go_wp2_with fail
  go_loopw [189] (fun t wr=>∃ (j : Nat),t = .int .i64 j∧j≤c.sites.length∧Hid (Rnd W sb base top c (.slice (some ⟨ob,oo,none⟩) c.threads.length oc) v1 v2 (.slice t0 m0 r0) (.slice t1 m1 r1) (.slice t2 m2 r2) (bf j) V1 B1 wr)∧Hid (VarAt wr ib [.int .i64 6,.int .i64 x.dst,.int .i64 (sk : Int),.int .i64 (r : Int),.int .i64 (n : Int),.int .i64 x.to,x.iv,x.xv] 50)) (fun t _=>c.sites.length - (intOf t).toNat)
  case atStart=>exact ⟨0,rfl,by omega,RD,VI⟩
  case round =>
   clear RD VI e3
   obtain ⟨j,rfl,hj,RD,VI⟩:=hrel
   by_cases hjn : j < c.sites.length
   ·obtain ⟨st,eb,eoff,hst,rfl,elt,era,eok⟩:=HSR.out j hjn
    have s0 : W.cell? ⟨eb,eoff + j * 3,none⟩ = some (.int .i64 st.th):=era 0 _ rfl
    have s1 : W.cell? ⟨eb,eoff + j * 3 + 1,none⟩ = some (.int .i64 st.pl):=era 1 _ rfl
    have s2 : W.cell? ⟨eb,eoff + j * 3 + 2,none⟩ = some (.int .i64 st.rc):=era 2 _ rfl
    rw [← RD.out.bel.cell elt] at s0 s1 s2
    have sd : c.sites.getD j Ste.z = st:=by simp [List.getD,hst]
    have bs:=BS.out j
    rw [sd] at bs
    have sf:=SF.out j st hst
    have hjI : (j : Int) < (c.sites.length : Int):=by omega
    have hj64 : j < 64:=by omega
    have ha:=hasB_nat aa j hj64
    have BK:=((Below.refl wr.heap.size wr).alloc (Nat.le_refl _) (.cells #[.int .i64 st.th,.int .i64 st.pl,.int .i64 st.rc] 43)).drew
    replace RD:=hid (RD.out.kept BK)
    replace VI:=hid (VI.out.kept BK)
    have VX:=hid ((VarAt.new wr [.int .i64 st.th,.int .i64 st.pl,.int .i64 st.rc] 43).kept (Below.refl _ _).drew)
    generalize hxb : wr.heap.size = xb at *
    replace bs:=hid bs
    replace sf:=hid sf
    clear era eok sd BK
    replace hst:=hid hst
    cases hq39 : aa.testBit j
    ·have hab : hasB aa (j : Int) = false:=ha.trans hq39
     have RN : Hid (Rnd W sb base top c (.slice (some ⟨ob,oo,none⟩) c.threads.length oc) v1 v2 (.slice t0 m0 r0) (.slice t1 m1 r1) (.slice t2 m2 r2) (bf (j + 1)) V1 B1 _):=hid (by rw [bs.out,if_neg (by rw [hq39];simp)];exact RD.out)
     clear ha hq39
     go_wp2_with fail
     refine wp_region_held_drew (S:=fun (w' : World)=>w'.cell? ⟨W.heap.size + 1,0,none⟩ = some (.slice (some ⟨ob,oo,none⟩) c.threads.length oc)∧w'.cell? ⟨ob,oo + i,none⟩ = some (.slice (some ⟨B i,0,none⟩) ls cp)∧w'.cell? ⟨ib,2,none⟩ = some (.int .i64 (sk : Int))∧w'.cell? ⟨B i,sk,none⟩ = some (.int .u64 (aa : Int))∧w'.cell? ⟨xb,2,none⟩ = some (.int .i64 st.rc)∧w'.cell? ⟨ib,3,none⟩ = some (.int .i64 (r : Int))) (by kernel_rfl) (⟨RD.out.b1.cell 0 rfl,(RD.out.bel.cell (p:=⟨ob,oo + i,none⟩) hob.out).trans hcell.out,VI.out.cell 2 rfl,(RD.out.bel.cell (p:=⟨B i,sk,none⟩) hlt.out).trans hrd.out,VX.out.cell 2 rfl,VI.out.cell 3 rfl⟩) (fun hHeld=>?_)
     refine wP 0 ⟨some 194,.fieldAddr 35 (.tmp 3) 0,0,"ref.go:97",#[],none⟩ HP hHeld ?_
     try simp only [Act.put,sA,sB,sC]
     refine wP 1 ⟨some 195,.load 32 (.tmp 194),32,"ref.go:97",#[⟨0,.data⟩],none⟩ HP hHeld ?_
     try simp only [Act.put,sA,sB,sC]
     refine wP 2 ⟨some 196,.move (.tmp 11),3,"ref.go:97",#[],none⟩ HP hHeld ?_
     try simp only [Act.put,sA,sB,sC]
     refine wP 3 ⟨some 197,.indexAddr 32 (.tmp 195) (.tmp 196),0,"ref.go:97",#[⟨1,.data⟩,⟨2,.data⟩],none⟩ HP hHeld ?_
     try simp only [Act.put,sA,sB,sC]
     refine wP 4 ⟨some 198,.load 33 (.tmp 197),33,"ref.go:97",#[⟨3,.data⟩],none⟩ HP hHeld ?_
     try simp only [Act.put,sA,sB,sC]
     refine wP 5 ⟨some 199,.fieldAddr 50 (.tmp 14) 2,0,"ref.go:97",#[],none⟩ HP hHeld ?_
     try simp only [Act.put,sA,sB,sC]
     refine wP 6 ⟨some 200,.load 3 (.tmp 199),3,"ref.go:97",#[⟨5,.data⟩],none⟩ HP hHeld ?_
     try simp only [Act.put,sA,sB,sC]
     refine wP 7 ⟨some 201,.indexAddr 33 (.tmp 198) (.tmp 200),0,"ref.go:97",#[⟨4,.data⟩,⟨6,.data⟩],none⟩ HP hHeld ?_
     try simp only [Act.put,sA,sB,sC]
     refine wP 8 ⟨some 202,.load 44 (.tmp 201),44,"ref.go:97",#[⟨7,.data⟩],none⟩ HP hHeld ?_
     try simp only [Act.put,sA,sB,sC]
     refine wP 9 ⟨some 203,.move (.tmp 15),3,"ref.go:97",#[],none⟩ HP hHeld ?_
     try simp only [Act.put,sA,sB,sC]
     refine wO 10 ⟨some 204,.call ⟨.value (.func 18),#[.tmp 202,.tmp 203],#[44,3]⟩,4,"ref.go:97",#[⟨8,.data⟩,⟨9,.data⟩],none⟩ (fun K' hK'=>?_)
     go_simp
     go_at_call 18
     refine Calls.mono (hasS_any aa haa (j : Int) _) ?_
     rintro _ _ ⟨rfl,rfl⟩
     rw [hab]
     refine hK'.out _ _ hHeld (fun hHeld=>?_)
     clear hK' K'
     try simp only [Act.put,sA,sB,sC]
     refine wP 11 ⟨some 205,.move (.tmp 204),4,"ref.go:97",#[⟨10,.data⟩,⟨10,.chain⟩],none⟩ HP hHeld ?_
     try simp only [Act.put,sA,sB,sC]
     refine wQ 12 ⟨some 206,.fieldAddr 43 (.tmp 16) 2,0,"ref.go:97",#[⟨11,.guard⟩],some (11,true)⟩ HP hHeld ?_
     try simp only [Act.put,sA,sB,sC]
     refine wQ 13 ⟨some 207,.load 3 (.tmp 206),3,"ref.go:97",#[⟨12,.data⟩,⟨11,.guard⟩],some (11,true)⟩ HP hHeld ?_
     try simp only [Act.put,sA,sB,sC]
     refine wQ 14 ⟨some 208,.fieldAddr 50 (.tmp 14) 3,0,"ref.go:97",#[⟨11,.guard⟩],some (11,true)⟩ HP hHeld ?_
     try simp only [Act.put,sA,sB,sC]
     refine wQ 15 ⟨some 209,.load 3 (.tmp 208),3,"ref.go:97",#[⟨14,.data⟩,⟨11,.guard⟩],some (11,true)⟩ HP hHeld ?_
     try simp only [Act.put,sA,sB,sC]
     refine wQ 16 ⟨some 210,.binOp .eql 3 (.tmp 207) (.tmp 209) 3,4,"ref.go:97",#[⟨13,.data⟩,⟨15,.data⟩,⟨11,.guard⟩],some (11,true)⟩ HP hHeld ?_
     try simp only [Act.put,sA,sB,sC]
     refine wP 17 ⟨some 211,.pick (.tmp 205) (.tmp 210) (.const (.bool false)),4,"ref.go:97",#[⟨11,.data⟩,⟨16,.data⟩],none⟩ HP hHeld ?_
     try simp only [Act.put,sA,sB,sC]
     refine wpAnyH_done (by kernel_rfl) ?_ _
     clear hHeld
     go_wp2_with fail
     go_roundw
     case rel=>exact ⟨j + 1,by go_num,by omega,RN,VI⟩
     case measure=>simp [intOf];omega
    ·have hab : hasB aa (j : Int) = true:=ha.trans hq39
     by_cases hrc : st.rc = (r : Int)
     ·have hb39 : (st.rc == (r : Int)) = true:=by simpa using hrc
      have hlen : (shapeC c).getD (c.threads.length + 1 + j) 0 = q.flds.length:=by rw [sf.out,FQ.out st hrc]
      have hk1' : n < ((bf j).getD (c.threads.length + 1 + j) []).length:=by rw [row_len,BSH.out j,hlen];exact hnl.out
      obtain ⟨ob1,oo1,oc1,a2,cp1,eo1,o1,o2,o3,o4,o5,o6⟩:=RD.out.sets.rowS hjn
      obtain ⟨rfl,rfl,rfl⟩:=Value.slice.inj eo1
      obtain ⟨rfl,hvv,hcz⟩:=o6 n hk1'
      have hne:=hid (fun e=>o5 ⟨c.threads.length + 1 + j,fun q=>by rw [q] at hk1';simp at hk1',e⟩ : ob1 ≠ B1 (c.threads.length + 1 + j))
      have hne2:=hid (show ib ≠ B1 (c.threads.length + 1 + j) from by have:=(RD.out.sets.at hk1').choose_spec.2.2.2.1;have:=hib2.out.1;have:=hib2.out.2;omega)
      have OC:=hid o4
      have dz:=hcz
      have U1:=BU.out j (c.threads.length + 1 + j) n
      have e5:=or64 U1 hmm.out
      have hnJ : (n : Int) < (((bf j).getD (c.threads.length + 1 + j) []).length : Int):=by omega
      have FN0 : bf (j + 1) = setR (bf j) (c.threads.length + 1 + j) n (gR (bf j) (c.threads.length + 1 + j) n ||| mm):=by rw [bs.out,if_pos ⟨hq39,hrc⟩];rfl
      have FN:=hid FN0
      generalize hgz : gR (bf j) (c.threads.length + 1 + j) n = z at *
      generalize hll : ((bf j).getD (c.threads.length + 1 + j) []).length = li at *
      replace hll:=hid hll
      have hk2 : Hid (n < ((bf j).getD (c.threads.length + 1 + j) []).length):=hid (by rw [hll.out];exact hk1')
      replace hrc:=hid hrc
      clear ha hq39 eo1 o1 o2 o3 o4 o5 o6 hcz hvv hk1' hlen U1 hgz FN0
      go_wp2_with fail
      refine wp_region_held_drew (S:=fun (w' : World)=>w'.cell? ⟨W.heap.size + 1,0,none⟩ = some (.slice (some ⟨ob,oo,none⟩) c.threads.length oc)∧w'.cell? ⟨ob,oo + i,none⟩ = some (.slice (some ⟨B i,0,none⟩) ls cp)∧w'.cell? ⟨ib,2,none⟩ = some (.int .i64 (sk : Int))∧w'.cell? ⟨B i,sk,none⟩ = some (.int .u64 (aa : Int))∧w'.cell? ⟨xb,2,none⟩ = some (.int .i64 st.rc)∧w'.cell? ⟨ib,3,none⟩ = some (.int .i64 (r : Int))) (by kernel_rfl) (⟨RD.out.b1.cell 0 rfl,(RD.out.bel.cell (p:=⟨ob,oo + i,none⟩) hob.out).trans hcell.out,VI.out.cell 2 rfl,(RD.out.bel.cell (p:=⟨B i,sk,none⟩) hlt.out).trans hrd.out,VX.out.cell 2 rfl,VI.out.cell 3 rfl⟩) (fun hHeld=>?_)
      refine wP 0 ⟨some 194,.fieldAddr 35 (.tmp 3) 0,0,"ref.go:97",#[],none⟩ HP hHeld ?_
      try simp only [Act.put,sA,sB,sC]
      refine wP 1 ⟨some 195,.load 32 (.tmp 194),32,"ref.go:97",#[⟨0,.data⟩],none⟩ HP hHeld ?_
      try simp only [Act.put,sA,sB,sC]
      refine wP 2 ⟨some 196,.move (.tmp 11),3,"ref.go:97",#[],none⟩ HP hHeld ?_
      try simp only [Act.put,sA,sB,sC]
      refine wP 3 ⟨some 197,.indexAddr 32 (.tmp 195) (.tmp 196),0,"ref.go:97",#[⟨1,.data⟩,⟨2,.data⟩],none⟩ HP hHeld ?_
      try simp only [Act.put,sA,sB,sC]
      refine wP 4 ⟨some 198,.load 33 (.tmp 197),33,"ref.go:97",#[⟨3,.data⟩],none⟩ HP hHeld ?_
      try simp only [Act.put,sA,sB,sC]
      refine wP 5 ⟨some 199,.fieldAddr 50 (.tmp 14) 2,0,"ref.go:97",#[],none⟩ HP hHeld ?_
      try simp only [Act.put,sA,sB,sC]
      refine wP 6 ⟨some 200,.load 3 (.tmp 199),3,"ref.go:97",#[⟨5,.data⟩],none⟩ HP hHeld ?_
      try simp only [Act.put,sA,sB,sC]
      refine wP 7 ⟨some 201,.indexAddr 33 (.tmp 198) (.tmp 200),0,"ref.go:97",#[⟨4,.data⟩,⟨6,.data⟩],none⟩ HP hHeld ?_
      try simp only [Act.put,sA,sB,sC]
      refine wP 8 ⟨some 202,.load 44 (.tmp 201),44,"ref.go:97",#[⟨7,.data⟩],none⟩ HP hHeld ?_
      try simp only [Act.put,sA,sB,sC]
      refine wP 9 ⟨some 203,.move (.tmp 15),3,"ref.go:97",#[],none⟩ HP hHeld ?_
      try simp only [Act.put,sA,sB,sC]
      refine wO 10 ⟨some 204,.call ⟨.value (.func 18),#[.tmp 202,.tmp 203],#[44,3]⟩,4,"ref.go:97",#[⟨8,.data⟩,⟨9,.data⟩],none⟩ (fun K' hK'=>?_)
      go_simp
      go_at_call 18
      refine Calls.mono (hasS_any aa haa (j : Int) _) ?_
      rintro _ _ ⟨rfl,rfl⟩
      rw [hab]
      refine hK'.out _ _ hHeld (fun hHeld=>?_)
      clear hK' K'
      try simp only [Act.put,sA,sB,sC]
      refine wP 11 ⟨some 205,.move (.tmp 204),4,"ref.go:97",#[⟨10,.data⟩,⟨10,.chain⟩],none⟩ HP hHeld ?_
      try simp only [Act.put,sA,sB,sC]
      refine wP 12 ⟨some 206,.fieldAddr 43 (.tmp 16) 2,0,"ref.go:97",#[⟨11,.guard⟩],some (11,true)⟩ HP hHeld ?_
      try simp only [Act.put,sA,sB,sC]
      refine wP 13 ⟨some 207,.load 3 (.tmp 206),3,"ref.go:97",#[⟨12,.data⟩,⟨11,.guard⟩],some (11,true)⟩ HP hHeld ?_
      try simp only [Act.put,sA,sB,sC]
      refine wP 14 ⟨some 208,.fieldAddr 50 (.tmp 14) 3,0,"ref.go:97",#[⟨11,.guard⟩],some (11,true)⟩ HP hHeld ?_
      try simp only [Act.put,sA,sB,sC]
      refine wP 15 ⟨some 209,.load 3 (.tmp 208),3,"ref.go:97",#[⟨14,.data⟩,⟨11,.guard⟩],some (11,true)⟩ HP hHeld ?_
      try simp only [Act.put,sA,sB,sC]
      refine wP 16 ⟨some 210,.binOp .eql 3 (.tmp 207) (.tmp 209) 3,4,"ref.go:97",#[⟨13,.data⟩,⟨15,.data⟩,⟨11,.guard⟩],some (11,true)⟩ HP hHeld ?_
      try simp only [Act.put,sA,sB,sC]
      refine wP 17 ⟨some 211,.pick (.tmp 205) (.tmp 210) (.const (.bool false)),4,"ref.go:97",#[⟨11,.data⟩,⟨16,.data⟩],none⟩ HP hHeld ?_
      try simp only [Act.put,sA,sB,sC]
      refine wpAnyH_done (by kernel_rfl) ?_ _
      clear hHeld
      skip
      clear s0 s1 s2 hb39
      go_wp2_with fail
      replace RD:=hid RD.out.drew
      replace VI:=hid (VI.out.kept (Below.refl _ _).drew)
      replace OC:=hid (((Below.refl _ _).drew.cell (World.block_lt_of_cell? _ _ OC.out)).trans OC.out)
      replace dz:=((Below.refl _ _).drew.cell (World.block_lt_of_cell? _ _ dz)).trans dz
      clear VX
      refine wp_region_held_drew (S:=fun (w' : World)=>w'.cell? ⟨sb,2,none⟩ = some (.slice (some ⟨ob1,oo1,none⟩) c.sites.length r2)∧w'.cell? ⟨ob1,oo1 + j,none⟩ = some (.slice (some ⟨B1 (c.threads.length + 1 + j),0,none⟩) li cp1)∧w'.cell? ⟨ib,0,none⟩ = some (.int .i64 6)∧w'.cell? ⟨ib,1,none⟩ = some (.int .i64 x.dst)∧w'.cell? ⟨ib,2,none⟩ = some (.int .i64 (sk : Int))∧w'.cell? ⟨ib,3,none⟩ = some (.int .i64 (r : Int))∧w'.cell? ⟨ib,4,none⟩ = some (.int .i64 (n : Int))∧w'.cell? ⟨ib,5,none⟩ = some (.int .i64 x.to)∧w'.cell? ⟨ib,6,none⟩ = some (x.iv)∧w'.cell? ⟨ib,7,none⟩ = some (x.xv)∧w'.cell? ⟨W.heap.size + 1,0,none⟩ = some (.slice (some ⟨ob,oo,none⟩) c.threads.length oc)∧w'.cell? ⟨W.heap.size + 1,1,none⟩ = some (v1)∧w'.cell? ⟨W.heap.size + 1,2,none⟩ = some (v2)) (by kernel_rfl) (⟨RD.out.bo.cell 2 rfl,OC.out,VI.out.cell 0 rfl,VI.out.cell 1 rfl,VI.out.cell 2 rfl,VI.out.cell 3 rfl,VI.out.cell 4 rfl,VI.out.cell 5 rfl,VI.out.cell 6 rfl,VI.out.cell 7 rfl,RD.out.b1.cell 0 rfl,RD.out.b1.cell 1 rfl,RD.out.b1.cell 2 rfl⟩) (fun hHeld=>?_)
      refine wP 0 ⟨some 212,.fieldAddr 35 (.tmp 5) 2,0,"ref.go:98",#[],none⟩ HP hHeld ?_
      try simp only [Act.put,sA,sB,sC]
      refine wP 1 ⟨some 213,.load 32 (.tmp 212),32,"ref.go:98",#[⟨0,.data⟩],none⟩ HP hHeld ?_
      try simp only [Act.put,sA,sB,sC]
      refine wP 2 ⟨some 214,.move (.tmp 15),3,"ref.go:98",#[],none⟩ HP hHeld ?_
      try simp only [Act.put,sA,sB,sC]
      refine wP 3 ⟨some 215,.indexAddr 32 (.tmp 213) (.tmp 214),0,"ref.go:98",#[⟨1,.data⟩,⟨2,.data⟩],none⟩ HP hHeld ?_
      try simp only [Act.put,sA,sB,sC]
      refine wP 4 ⟨some 216,.load 33 (.tmp 215),33,"ref.go:98",#[⟨3,.data⟩],none⟩ HP hHeld ?_
      try simp only [Act.put,sA,sB,sC]
      refine wP 5 ⟨some 217,.fieldAddr 50 (.tmp 14) 4,0,"ref.go:98",#[],none⟩ HP hHeld ?_
      try simp only [Act.put,sA,sB,sC]
      refine wP 6 ⟨some 218,.load 3 (.tmp 217),3,"ref.go:98",#[⟨5,.data⟩],none⟩ HP hHeld ?_
      try simp only [Act.put,sA,sB,sC]
      refine wP 7 ⟨some 219,.fieldAddr 35 (.tmp 5) 2,0,"ref.go:98",#[],none⟩ HP hHeld ?_
      try simp only [Act.put,sA,sB,sC]
      refine wP 8 ⟨some 220,.load 32 (.tmp 219),32,"ref.go:98",#[⟨7,.data⟩],none⟩ HP hHeld ?_
      try simp only [Act.put,sA,sB,sC]
      refine wP 9 ⟨some 221,.move (.tmp 15),3,"ref.go:98",#[],none⟩ HP hHeld ?_
      try simp only [Act.put,sA,sB,sC]
      refine wP 10 ⟨some 222,.indexAddr 32 (.tmp 220) (.tmp 221),0,"ref.go:98",#[⟨8,.data⟩,⟨9,.data⟩],none⟩ HP hHeld ?_
      try simp only [Act.put,sA,sB,sC]
      refine wP 11 ⟨some 223,.load 33 (.tmp 222),33,"ref.go:98",#[⟨10,.data⟩],none⟩ HP hHeld ?_
      try simp only [Act.put,sA,sB,sC]
      refine wP 12 ⟨some 224,.fieldAddr 50 (.tmp 14) 4,0,"ref.go:98",#[],none⟩ HP hHeld ?_
      try simp only [Act.put,sA,sB,sC]
      refine wP 13 ⟨some 225,.load 3 (.tmp 224),3,"ref.go:98",#[⟨12,.data⟩],none⟩ HP hHeld ?_
      try simp only [Act.put,sA,sB,sC]
      refine wP 14 ⟨some 226,.indexAddr 33 (.tmp 223) (.tmp 225),0,"ref.go:98",#[⟨11,.data⟩,⟨13,.data⟩],none⟩ HP hHeld ?_
      try simp only [Act.put,sA,sB,sC]
      refine wP 16 ⟨some 228,.load 35 (.tmp 3),35,"ref.go:98",#[],none⟩ HP hHeld ?_
      try simp only [Act.put,sA,sB,sC]
      refine wP 17 ⟨some 229,.move (.tmp 11),3,"ref.go:98",#[],none⟩ HP hHeld ?_
      try simp only [Act.put,sA,sB,sC]
      refine wP 18 ⟨some 230,.fieldAddr 50 (.tmp 14) 6,0,"ref.go:98",#[],none⟩ HP hHeld ?_
      try simp only [Act.put,sA,sB,sC]
      refine wP 19 ⟨some 231,.load 48 (.tmp 230),48,"ref.go:98",#[⟨18,.data⟩],none⟩ HP hHeld ?_
      try simp only [Act.put,sA,sB,sC]
      refine wpAnyH_ready (rs:=[15,20]) (by kernel_rfl) (by simp) ?_
      refine AllReadyH.cons (o:=⟨some 227,.load 44 (.tmp 226),44,"ref.go:98",#[⟨14,.data⟩],none⟩) rfl (fun K' hK'=>?_) ?_
      ·skip
       go_simp
       refine hK'.out _ _ hHeld (fun hHeld=>?_)
       clear hK' K'
       try simp only [Act.put,sA,sB,sC]
       refine wO 20 ⟨some 232,.call ⟨.value (.func 31),#[.tmp 228,.tmp 229,.tmp 231],#[35,3,48]⟩,44,"ref.go:98",#[⟨16,.data⟩,⟨17,.data⟩,⟨19,.data⟩],none⟩ (fun K' hK'=>?_)
       go_simp
       go_at_call 31
       refine Calls.mono (CI.out _ RD.out.bel) ?_
       rintro _ y ⟨rfl,hk⟩
       replace dz:=(hk.cell (World.block_lt_of_cell? _ _ dz)).trans dz
       replace OC:=hid ((hk.cell (World.block_lt_of_cell? _ _ OC.out)).trans OC.out)
       replace RD:=hid (RD.out.kept hk)
       replace VI:=hid (VI.out.kept hk)
       have hz:=hid (show y.cell? ⟨sb,2,none⟩ = some (.slice (some ⟨ob1,oo1,none⟩) c.sites.length r2)∧y.cell? ⟨ob1,oo1 + j,none⟩ = some (.slice (some ⟨B1 (c.threads.length + 1 + j),0,none⟩) li cp1)∧y.cell? ⟨ib,0,none⟩ = some (.int .i64 6)∧y.cell? ⟨ib,1,none⟩ = some (.int .i64 x.dst)∧y.cell? ⟨ib,2,none⟩ = some (.int .i64 (sk : Int))∧y.cell? ⟨ib,3,none⟩ = some (.int .i64 (r : Int))∧y.cell? ⟨ib,4,none⟩ = some (.int .i64 (n : Int))∧y.cell? ⟨ib,5,none⟩ = some (.int .i64 x.to)∧y.cell? ⟨ib,6,none⟩ = some (x.iv)∧y.cell? ⟨ib,7,none⟩ = some (x.xv)∧y.cell? ⟨W.heap.size + 1,0,none⟩ = some (.slice (some ⟨ob,oo,none⟩) c.threads.length oc)∧y.cell? ⟨W.heap.size + 1,1,none⟩ = some (v1)∧y.cell? ⟨W.heap.size + 1,2,none⟩ = some (v2) from ⟨RD.out.bo.cell 2 rfl,OC.out,VI.out.cell 0 rfl,VI.out.cell 1 rfl,VI.out.cell 2 rfl,VI.out.cell 3 rfl,VI.out.cell 4 rfl,VI.out.cell 5 rfl,VI.out.cell 6 rfl,VI.out.cell 7 rfl,RD.out.b1.cell 0 rfl,RD.out.b1.cell 1 rfl,RD.out.b1.cell 2 rfl⟩)
       clear hk
       refine hK'.out _ _ hz.out (fun hHeld=>?_)
       clear hK' K'
       try simp only [Act.put,sA,sB,sC]
       refine wP 21 ⟨some 233,.binOp .or 44 (.tmp 227) (.tmp 232) 44,44,"ref.go:98",#[⟨15,.data⟩,⟨20,.data⟩],none⟩ HP hHeld ?_
       try simp only [Act.put,sA,sB,sC]
       refine wP 22 ⟨some 234,.indexAddr 33 (.tmp 216) (.tmp 218),0,"ref.go:98",#[⟨4,.data⟩,⟨6,.data⟩,⟨0,.phase⟩,⟨1,.phase⟩,⟨2,.phase⟩,⟨3,.phase⟩,⟨4,.phase⟩,⟨5,.phase⟩,⟨6,.phase⟩,⟨7,.phase⟩,⟨8,.phase⟩,⟨9,.phase⟩,⟨10,.phase⟩,⟨11,.phase⟩,⟨12,.phase⟩,⟨13,.phase⟩,⟨14,.phase⟩,⟨15,.phase⟩,⟨16,.phase⟩,⟨17,.phase⟩,⟨18,.phase⟩,⟨19,.phase⟩,⟨20,.phase⟩,⟨21,.phase⟩],none⟩ HP hHeld ?_
       try simp only [Act.put,sA,sB,sC]
       refine wO 23 ⟨none,.store 44 (.tmp 234) (.tmp 233),0,"ref.go:98",#[⟨22,.data⟩,⟨21,.data⟩,⟨20,.chain⟩,⟨0,.phase⟩,⟨1,.phase⟩,⟨2,.phase⟩,⟨3,.phase⟩,⟨4,.phase⟩,⟨5,.phase⟩,⟨6,.phase⟩,⟨7,.phase⟩,⟨8,.phase⟩,⟨9,.phase⟩,⟨10,.phase⟩,⟨11,.phase⟩,⟨12,.phase⟩,⟨13,.phase⟩,⟨14,.phase⟩,⟨15,.phase⟩,⟨16,.phase⟩,⟨17,.phase⟩,⟨18,.phase⟩,⟨19,.phase⟩,⟨20,.phase⟩,⟨21,.phase⟩],none⟩ (fun K' hK'=>?_)
       refine step_store_cell 44 _ _ (by rfl) (by rfl) (B1 (c.threads.length + 1 + j)) n (by rfl) (.int .u64 ((z ||| mm : Nat) : Int)) (by first | rfl | simp [*]) size44 rfl _ _ (RD.out.varAt hk2.out) (by rw [cellsN_len];exact hk2.out) ?_
       intro X1 hv ht
       have RS:=RD.out.stored hk2.out hv ht
       have VS:=ht.var VI.out hne2.out
       have hz:=hid (show X1.cell? ⟨sb,2,none⟩ = some (.slice (some ⟨ob1,oo1,none⟩) c.sites.length r2)∧X1.cell? ⟨ob1,oo1 + j,none⟩ = some (.slice (some ⟨B1 (c.threads.length + 1 + j),0,none⟩) li cp1)∧X1.cell? ⟨ib,0,none⟩ = some (.int .i64 6)∧X1.cell? ⟨ib,1,none⟩ = some (.int .i64 x.dst)∧X1.cell? ⟨ib,2,none⟩ = some (.int .i64 (sk : Int))∧X1.cell? ⟨ib,3,none⟩ = some (.int .i64 (r : Int))∧X1.cell? ⟨ib,4,none⟩ = some (.int .i64 (n : Int))∧X1.cell? ⟨ib,5,none⟩ = some (.int .i64 x.to)∧X1.cell? ⟨ib,6,none⟩ = some (x.iv)∧X1.cell? ⟨ib,7,none⟩ = some (x.xv)∧X1.cell? ⟨W.heap.size + 1,0,none⟩ = some (.slice (some ⟨ob,oo,none⟩) c.threads.length oc)∧X1.cell? ⟨W.heap.size + 1,1,none⟩ = some (v1)∧X1.cell? ⟨W.heap.size + 1,2,none⟩ = some (v2) from ⟨RS.bo.cell 2 rfl,((World.cell?_of_block (ht.block ob1 hne.out)).trans OC.out),VS.cell 0 rfl,VS.cell 1 rfl,VS.cell 2 rfl,VS.cell 3 rfl,VS.cell 4 rfl,VS.cell 5 rfl,VS.cell 6 rfl,VS.cell 7 rfl,RS.b1.cell 0 rfl,RS.b1.cell 1 rfl,RS.b1.cell 2 rfl⟩)
       replace RD:=hid RS
       replace VI:=hid VS
       clear hv ht RS VS
       refine hK'.out _ _ hz.out (fun hHeld=>?_)
       clear hK' K'
       try simp only [Act.put,sA,sB,sC]
       refine wpAnyH_done (by kernel_rfl) ?_ _
       clear hHeld
       replace RD:=hid (show Rnd W sb base top c (.slice (some ⟨ob,oo,none⟩) c.threads.length oc) v1 v2 (.slice t0 m0 r0) (.slice t1 m1 r1) (.slice (some ⟨ob1,oo1,none⟩) c.sites.length r2) (bf (j + 1)) V1 B1 _ from by rw [FN.out];exact RD.out)
       go_wp2_with fail
       go_roundw
       case rel=>exact ⟨j + 1,by go_num,by omega,RD,VI⟩
       case measure=>simp [intOf];omega
      refine AllReadyH.cons (o:=⟨some 232,.call ⟨.value (.func 31),#[.tmp 228,.tmp 229,.tmp 231],#[35,3,48]⟩,44,"ref.go:98",#[⟨16,.data⟩,⟨17,.data⟩,⟨19,.data⟩],none⟩) rfl (fun K' hK'=>?_) AllReadyH.nil
      go_simp
      go_at_call 31
      refine Calls.mono (CI.out _ RD.out.bel) ?_
      rintro _ y ⟨rfl,hk⟩
      replace dz:=(hk.cell (World.block_lt_of_cell? _ _ dz)).trans dz
      replace OC:=hid ((hk.cell (World.block_lt_of_cell? _ _ OC.out)).trans OC.out)
      replace RD:=hid (RD.out.kept hk)
      replace VI:=hid (VI.out.kept hk)
      have hz:=hid (show y.cell? ⟨sb,2,none⟩ = some (.slice (some ⟨ob1,oo1,none⟩) c.sites.length r2)∧y.cell? ⟨ob1,oo1 + j,none⟩ = some (.slice (some ⟨B1 (c.threads.length + 1 + j),0,none⟩) li cp1)∧y.cell? ⟨ib,0,none⟩ = some (.int .i64 6)∧y.cell? ⟨ib,1,none⟩ = some (.int .i64 x.dst)∧y.cell? ⟨ib,2,none⟩ = some (.int .i64 (sk : Int))∧y.cell? ⟨ib,3,none⟩ = some (.int .i64 (r : Int))∧y.cell? ⟨ib,4,none⟩ = some (.int .i64 (n : Int))∧y.cell? ⟨ib,5,none⟩ = some (.int .i64 x.to)∧y.cell? ⟨ib,6,none⟩ = some (x.iv)∧y.cell? ⟨ib,7,none⟩ = some (x.xv)∧y.cell? ⟨W.heap.size + 1,0,none⟩ = some (.slice (some ⟨ob,oo,none⟩) c.threads.length oc)∧y.cell? ⟨W.heap.size + 1,1,none⟩ = some (v1)∧y.cell? ⟨W.heap.size + 1,2,none⟩ = some (v2) from ⟨RD.out.bo.cell 2 rfl,OC.out,VI.out.cell 0 rfl,VI.out.cell 1 rfl,VI.out.cell 2 rfl,VI.out.cell 3 rfl,VI.out.cell 4 rfl,VI.out.cell 5 rfl,VI.out.cell 6 rfl,VI.out.cell 7 rfl,RD.out.b1.cell 0 rfl,RD.out.b1.cell 1 rfl,RD.out.b1.cell 2 rfl⟩)
      clear hk
      refine hK'.out _ _ hz.out (fun hHeld=>?_)
      clear hK' K'
      try simp only [Act.put,sA,sB,sC]
      refine wO 15 ⟨some 227,.load 44 (.tmp 226),44,"ref.go:98",#[⟨14,.data⟩],none⟩ (fun K' hK'=>?_)
      go_simp
      refine hK'.out _ _ hHeld (fun hHeld=>?_)
      clear hK' K'
      try simp only [Act.put,sA,sB,sC]
      refine wP 21 ⟨some 233,.binOp .or 44 (.tmp 227) (.tmp 232) 44,44,"ref.go:98",#[⟨15,.data⟩,⟨20,.data⟩],none⟩ HP hHeld ?_
      try simp only [Act.put,sA,sB,sC]
      refine wP 22 ⟨some 234,.indexAddr 33 (.tmp 216) (.tmp 218),0,"ref.go:98",#[⟨4,.data⟩,⟨6,.data⟩,⟨0,.phase⟩,⟨1,.phase⟩,⟨2,.phase⟩,⟨3,.phase⟩,⟨4,.phase⟩,⟨5,.phase⟩,⟨6,.phase⟩,⟨7,.phase⟩,⟨8,.phase⟩,⟨9,.phase⟩,⟨10,.phase⟩,⟨11,.phase⟩,⟨12,.phase⟩,⟨13,.phase⟩,⟨14,.phase⟩,⟨15,.phase⟩,⟨16,.phase⟩,⟨17,.phase⟩,⟨18,.phase⟩,⟨19,.phase⟩,⟨20,.phase⟩,⟨21,.phase⟩],none⟩ HP hHeld ?_
      try simp only [Act.put,sA,sB,sC]
      refine wO 23 ⟨none,.store 44 (.tmp 234) (.tmp 233),0,"ref.go:98",#[⟨22,.data⟩,⟨21,.data⟩,⟨20,.chain⟩,⟨0,.phase⟩,⟨1,.phase⟩,⟨2,.phase⟩,⟨3,.phase⟩,⟨4,.phase⟩,⟨5,.phase⟩,⟨6,.phase⟩,⟨7,.phase⟩,⟨8,.phase⟩,⟨9,.phase⟩,⟨10,.phase⟩,⟨11,.phase⟩,⟨12,.phase⟩,⟨13,.phase⟩,⟨14,.phase⟩,⟨15,.phase⟩,⟨16,.phase⟩,⟨17,.phase⟩,⟨18,.phase⟩,⟨19,.phase⟩,⟨20,.phase⟩,⟨21,.phase⟩],none⟩ (fun K' hK'=>?_)
      refine step_store_cell 44 _ _ (by rfl) (by rfl) (B1 (c.threads.length + 1 + j)) n (by rfl) (.int .u64 ((z ||| mm : Nat) : Int)) (by first | rfl | simp [*]) size44 rfl _ _ (RD.out.varAt hk2.out) (by rw [cellsN_len];exact hk2.out) ?_
      intro X1 hv ht
      have RS:=RD.out.stored hk2.out hv ht
      have VS:=ht.var VI.out hne2.out
      have hz:=hid (show X1.cell? ⟨sb,2,none⟩ = some (.slice (some ⟨ob1,oo1,none⟩) c.sites.length r2)∧X1.cell? ⟨ob1,oo1 + j,none⟩ = some (.slice (some ⟨B1 (c.threads.length + 1 + j),0,none⟩) li cp1)∧X1.cell? ⟨ib,0,none⟩ = some (.int .i64 6)∧X1.cell? ⟨ib,1,none⟩ = some (.int .i64 x.dst)∧X1.cell? ⟨ib,2,none⟩ = some (.int .i64 (sk : Int))∧X1.cell? ⟨ib,3,none⟩ = some (.int .i64 (r : Int))∧X1.cell? ⟨ib,4,none⟩ = some (.int .i64 (n : Int))∧X1.cell? ⟨ib,5,none⟩ = some (.int .i64 x.to)∧X1.cell? ⟨ib,6,none⟩ = some (x.iv)∧X1.cell? ⟨ib,7,none⟩ = some (x.xv)∧X1.cell? ⟨W.heap.size + 1,0,none⟩ = some (.slice (some ⟨ob,oo,none⟩) c.threads.length oc)∧X1.cell? ⟨W.heap.size + 1,1,none⟩ = some (v1)∧X1.cell? ⟨W.heap.size + 1,2,none⟩ = some (v2) from ⟨RS.bo.cell 2 rfl,((World.cell?_of_block (ht.block ob1 hne.out)).trans OC.out),VS.cell 0 rfl,VS.cell 1 rfl,VS.cell 2 rfl,VS.cell 3 rfl,VS.cell 4 rfl,VS.cell 5 rfl,VS.cell 6 rfl,VS.cell 7 rfl,RS.b1.cell 0 rfl,RS.b1.cell 1 rfl,RS.b1.cell 2 rfl⟩)
      replace RD:=hid RS
      replace VI:=hid VS
      clear hv ht RS VS
      refine hK'.out _ _ hz.out (fun hHeld=>?_)
      clear hK' K'
      try simp only [Act.put,sA,sB,sC]
      refine wpAnyH_done (by kernel_rfl) ?_ _
      clear hHeld
      replace RD:=hid (show Rnd W sb base top c (.slice (some ⟨ob,oo,none⟩) c.threads.length oc) v1 v2 (.slice t0 m0 r0) (.slice t1 m1 r1) (.slice (some ⟨ob1,oo1,none⟩) c.sites.length r2) (bf (j + 1)) V1 B1 _ from by rw [FN.out];exact RD.out)
      go_wp2_with fail
      go_roundw
      case rel=>exact ⟨j + 1,by go_num,by omega,RD,VI⟩
      case measure=>simp [intOf];omega
     ·have hb39 : (st.rc == (r : Int)) = false:=by simpa using hrc
      have RN : Hid (Rnd W sb base top c (.slice (some ⟨ob,oo,none⟩) c.threads.length oc) v1 v2 (.slice t0 m0 r0) (.slice t1 m1 r1) (.slice t2 m2 r2) (bf (j + 1)) V1 B1 _):=hid (by rw [bs.out,if_neg (fun e=>hrc e.2)];exact RD.out)
      clear ha hq39
      go_wp2_with fail
      refine wp_region_held_drew (S:=fun (w' : World)=>w'.cell? ⟨W.heap.size + 1,0,none⟩ = some (.slice (some ⟨ob,oo,none⟩) c.threads.length oc)∧w'.cell? ⟨ob,oo + i,none⟩ = some (.slice (some ⟨B i,0,none⟩) ls cp)∧w'.cell? ⟨ib,2,none⟩ = some (.int .i64 (sk : Int))∧w'.cell? ⟨B i,sk,none⟩ = some (.int .u64 (aa : Int))∧w'.cell? ⟨xb,2,none⟩ = some (.int .i64 st.rc)∧w'.cell? ⟨ib,3,none⟩ = some (.int .i64 (r : Int))) (by kernel_rfl) (⟨RD.out.b1.cell 0 rfl,(RD.out.bel.cell (p:=⟨ob,oo + i,none⟩) hob.out).trans hcell.out,VI.out.cell 2 rfl,(RD.out.bel.cell (p:=⟨B i,sk,none⟩) hlt.out).trans hrd.out,VX.out.cell 2 rfl,VI.out.cell 3 rfl⟩) (fun hHeld=>?_)
      refine wP 0 ⟨some 194,.fieldAddr 35 (.tmp 3) 0,0,"ref.go:97",#[],none⟩ HP hHeld ?_
      try simp only [Act.put,sA,sB,sC]
      refine wP 1 ⟨some 195,.load 32 (.tmp 194),32,"ref.go:97",#[⟨0,.data⟩],none⟩ HP hHeld ?_
      try simp only [Act.put,sA,sB,sC]
      refine wP 2 ⟨some 196,.move (.tmp 11),3,"ref.go:97",#[],none⟩ HP hHeld ?_
      try simp only [Act.put,sA,sB,sC]
      refine wP 3 ⟨some 197,.indexAddr 32 (.tmp 195) (.tmp 196),0,"ref.go:97",#[⟨1,.data⟩,⟨2,.data⟩],none⟩ HP hHeld ?_
      try simp only [Act.put,sA,sB,sC]
      refine wP 4 ⟨some 198,.load 33 (.tmp 197),33,"ref.go:97",#[⟨3,.data⟩],none⟩ HP hHeld ?_
      try simp only [Act.put,sA,sB,sC]
      refine wP 5 ⟨some 199,.fieldAddr 50 (.tmp 14) 2,0,"ref.go:97",#[],none⟩ HP hHeld ?_
      try simp only [Act.put,sA,sB,sC]
      refine wP 6 ⟨some 200,.load 3 (.tmp 199),3,"ref.go:97",#[⟨5,.data⟩],none⟩ HP hHeld ?_
      try simp only [Act.put,sA,sB,sC]
      refine wP 7 ⟨some 201,.indexAddr 33 (.tmp 198) (.tmp 200),0,"ref.go:97",#[⟨4,.data⟩,⟨6,.data⟩],none⟩ HP hHeld ?_
      try simp only [Act.put,sA,sB,sC]
      refine wP 8 ⟨some 202,.load 44 (.tmp 201),44,"ref.go:97",#[⟨7,.data⟩],none⟩ HP hHeld ?_
      try simp only [Act.put,sA,sB,sC]
      refine wP 9 ⟨some 203,.move (.tmp 15),3,"ref.go:97",#[],none⟩ HP hHeld ?_
      try simp only [Act.put,sA,sB,sC]
      refine wO 10 ⟨some 204,.call ⟨.value (.func 18),#[.tmp 202,.tmp 203],#[44,3]⟩,4,"ref.go:97",#[⟨8,.data⟩,⟨9,.data⟩],none⟩ (fun K' hK'=>?_)
      go_simp
      go_at_call 18
      refine Calls.mono (hasS_any aa haa (j : Int) _) ?_
      rintro _ _ ⟨rfl,rfl⟩
      rw [hab]
      refine hK'.out _ _ hHeld (fun hHeld=>?_)
      clear hK' K'
      try simp only [Act.put,sA,sB,sC]
      refine wP 11 ⟨some 205,.move (.tmp 204),4,"ref.go:97",#[⟨10,.data⟩,⟨10,.chain⟩],none⟩ HP hHeld ?_
      try simp only [Act.put,sA,sB,sC]
      refine wP 12 ⟨some 206,.fieldAddr 43 (.tmp 16) 2,0,"ref.go:97",#[⟨11,.guard⟩],some (11,true)⟩ HP hHeld ?_
      try simp only [Act.put,sA,sB,sC]
      refine wP 13 ⟨some 207,.load 3 (.tmp 206),3,"ref.go:97",#[⟨12,.data⟩,⟨11,.guard⟩],some (11,true)⟩ HP hHeld ?_
      try simp only [Act.put,sA,sB,sC]
      refine wP 14 ⟨some 208,.fieldAddr 50 (.tmp 14) 3,0,"ref.go:97",#[⟨11,.guard⟩],some (11,true)⟩ HP hHeld ?_
      try simp only [Act.put,sA,sB,sC]
      refine wP 15 ⟨some 209,.load 3 (.tmp 208),3,"ref.go:97",#[⟨14,.data⟩,⟨11,.guard⟩],some (11,true)⟩ HP hHeld ?_
      try simp only [Act.put,sA,sB,sC]
      refine wP 16 ⟨some 210,.binOp .eql 3 (.tmp 207) (.tmp 209) 3,4,"ref.go:97",#[⟨13,.data⟩,⟨15,.data⟩,⟨11,.guard⟩],some (11,true)⟩ HP hHeld ?_
      try simp only [Act.put,sA,sB,sC]
      refine wP 17 ⟨some 211,.pick (.tmp 205) (.tmp 210) (.const (.bool false)),4,"ref.go:97",#[⟨11,.data⟩,⟨16,.data⟩],none⟩ HP hHeld ?_
      try simp only [Act.put,sA,sB,sC]
      refine wpAnyH_done (by kernel_rfl) ?_ _
      clear hHeld
      go_wp2_with fail
      go_roundw
      case rel=>exact ⟨j + 1,by go_num,by omega,RN,VI⟩
      case measure=>simp [intOf];omega
   ·have e : j = c.sites.length:=by omega
    subst e
    go_wp2_with fail
    exact HQ.out _ _ _ _ _ _ _ _ _ _ _ _ _ _ _ _ _ _ _ _ _ _ _ _ _ _ _ _ _ _ _ _ _ _ _ _ _ _ _ _ _ _ _ _ _ _ _ _ _ _ _ _ _ _ _ _ _ _ _ _ _ _ _ _ _ _ _ _ _ RD.out (by rw [xcells,hop.out,hsk.out,hr.out,hn.out];exact VI.out)
end Go.Proofs.YtkdpcaoocmbbhaaDoor
