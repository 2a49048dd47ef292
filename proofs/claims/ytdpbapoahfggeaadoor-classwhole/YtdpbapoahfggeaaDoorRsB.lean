/- The document's Good: the instruction at a place. -/
import Derived.Test.YtdpbapoahfggeaaDoorWt
import Derived.Test.YtdpbapoahfggeaaDoorM04
import Derived.Test.YtdpbapoahfggeaaDoorM12
import Derived.Test.YtdpbapoahfggeaaDoorSecC
import Derived.Test.YtdpbapoahfggeaaDoorAgrC
import Derived.Test.YtdpbapoahfggeaaDoorM10
namespace Go.Proofs.YtdpbapoahfggeaaDoor
open Go.ChangeShapes Go.WideShapes Go.ChangeAt Go.RowKit
set_option linter.unusedVariables false
set_option linter.unusedSimpArgs false

theorem insAt_i0 {c : Cd} {kt kp : Nat} {x : Bd} {y : Ins} (hx : c.threads[kt]? = some x) (hy : x.code[kp]? = some y) : insAt c (kt : Int) (kp : Int) = y:=by
 have h1:=(List.getElem?_eq_some_iff.1 hx).1
 have h2:=(List.getElem?_eq_some_iff.1 hy).1
 have e1 : c.threads.getD (kt : Int).toNat Bd.z = x:=by simp [List.getD,hx]
 have i1 : isIn (kt : Int) c.threads.length = true:=isIn_iff.2 ⟨by omega,by omega⟩
 have i2 : isIn (kp : Int) x.code.length = true:=isIn_iff.2 ⟨by omega,by omega⟩
 unfold insAt
 rw [e1,i1,i2]
 simp [List.getD,hy]
theorem insAt_n1 {c : Cd} {th pl : Int} (h : isIn th c.threads.length = false) : insAt c th pl = Ins.z:=by
 unfold insAt;rw [h];rfl
theorem insAt_n2 {c : Cd} {kt : Nat} {pl : Int} {x : Bd} (hx : c.threads[kt]? = some x) (h : isIn pl x.code.length = false) : insAt c (kt : Int) pl = Ins.z:=by
 have e1 : c.threads.getD (kt : Int).toNat Bd.z = x:=by simp [List.getD,hx]
 unfold insAt;rw [e1,h];simp
theorem ste_no {c : Cd} {i : Int} {s : Ste} (h : insAt c s.th s.pl = Ins.z) : ¬ steOk c i s:=fun k=>by
 rw [steOk,h] at k
 rcases k.1 with e | e <;> simp [Ins.z] at e
theorem inZ_any (n m : Int) (w : World) : Calls Tryd.prog 20 #[.int .i64 n,.int .i64 m] w fun e w'=>e = .returned (.bool (decide (0≤n) && decide (n < m)))∧w' = w:=by
 go_enter Tryd.func20,Tryd.ntmps20
 go_wp2
 all_goals
  go_ret
  refine ⟨retB ?_,rfl⟩
  first | (simp [*];done) | (simp [*];intros;omega)
end Go.Proofs.YtdpbapoahfggeaaDoor

/- The document's Good: sections, plainly. -/
namespace Go.Proofs.YtdpbapoahfggeaaDoor
open Go.ChangeShapes Go.WideShapes Go.ChangeAt Go.RowKit
set_option linter.unusedVariables false
set_option linter.unusedSimpArgs false

theorem meet_comm (a b : Sec) : meetB a b = meetB b a:=by
 unfold meetB
 rw [show (a.th == b.th) = (b.th == a.th) from by
  by_cases h : a.th = b.th
  ·rw [h]
  ·rw [beq_eq_false_iff_ne.2 h,beq_eq_false_iff_ne.2 (Ne.symm h)]]
 cases (b.th == a.th) <;> cases decide (a.fr≤b.to) <;> cases decide (b.fr≤a.to) <;> rfl
theorem secs_all {c : Cd} : (∀ (i : Nat) (s : Sec),c.secs[i]? = some s→secOk c i s∧∀ (k : Nat) (o : Sec),k ≠ i→c.secs[k]? = some o→meetB s o = false)↔(∀ (i : Nat) (s : Sec),c.secs[i]? = some s→secOk c i s∧∀ (k : Nat) (o : Sec),k < i→c.secs[k]? = some o→meetB s o = false):=by
 refine ⟨fun h i s hs=>⟨(h i s hs).1,fun k o hk ho=>(h i s hs).2 k o (by omega) ho⟩,fun h i s hs=>⟨(h i s hs).1,fun k o hk ho=>?_⟩⟩
 by_cases hki : k < i
 ·exact (h i s hs).2 k o hki ho
 ·rw [meet_comm];exact (h k o ho).2 i s (by omega) hs
theorem sec_no1 {c : Cd} {i : Int} {s : Sec} (h : insAt c s.th s.fr = Ins.z) : ¬ secOk c i s:=fun k=>by
 have e:=k.1
 rw [h] at e;simp [Ins.z] at e
theorem sec_no2 {c : Cd} {i : Int} {s : Sec} (h : insAt c s.th s.to = Ins.z) : ¬ secOk c i s:=fun k=>by
 have e:=k.2.2.1
 rw [h] at e;simp [Ins.z] at e
end Go.Proofs.YtdpbapoahfggeaaDoor

/- The document's Good: the instruction of a site (region 48), put into a box of its own. -/
namespace Go.Proofs.YtdpbapoahfggeaaDoor
open Go.ChangeShapes Go.WideShapes Go.ChangeAt Go.RowKit
set_option linter.unusedVariables false
set_option linter.unusedSimpArgs false

set_option maxRecDepth 100000 in
set_option maxHeartbeats 4000000 in
theorem region48_any {Q : Exit→Act→World→Prop} {s0 s2 s3 s4 s5 s6 s7 s8 s9 s10 s11 s12 s13 s14 s15 s16 s17 s19 s20 s21 s22 s23 s24 s25 s26 s27 s28 s29 s30 s31 s32 s33 s34 s35 s36 s37 s38 s39 s40 s41 s42 s43 s44 s45 s46 s47 s48 s49 s50 s51 s52 s53 s54 s55 s56 s57 s58 s59 s60 s61 s62 s63 s64 s65 s66 s67 s68 s69 s70 s71 s72 s73 s74 s75 s76 s77 s78 s79 s80 s81 s82 s83 s84 s85 s86 s87 s88 s89 s90 s91 s92 s93 s94 s95 s96 s97 s98 s99 s100 s101 s102 s103 s104 s105 s106 s107 s108 s109 s110 s111 s112 s113 s114 s115 s116 s117 s118 s119 s120 s121 s122 s123 s124 s125 s126 s127 s128 s129 s130 s131 s132 s133 s134 s135 s136 s137 s138 s139 s140 s141 s142 s143 s144 s145 s146 s147 s148 s149 s150 s151 s152 s153 s154 s155 s156 s157 s158 s159 s160 s161 s162 s163 s164 s165 s166 s167 s168 s169 s170 s171 s172 s173 s174 s175 s176 s177 s178 s179 s180 s181 s182 s183 s184 s185 s186 s187 s188 s189 s190 s191 s192 s193 s194 s195 s196 s197 s198 s199 s200 s201 s202 s203 s204 s205 s206 s207 s208 s209 s210 s211 s212 s213 s214 s215 s216 s217 s218 s219 s220 s221 s222 s223 s224 s225 s226 s227 s228 s229 s230 s231 s232 s233 s234 s235 s236 s237 s238 s239 s240 s241 s242 s243 s244 s245 s246 s247 s248 s249 s250 s251 s252 s253 s254 s255 s256 s257 s258 s259 s260 s261 s262 s263 s264 s265 s266 s267 s268 s269 s270 s271 s272 s273 s274 s275 s276 s277 s278 s279 s280 s281 s282 s283 s284 s285 s286 s287 s288 s289 s290 s291 s292 s293 s294 s295 s296 s297 s298 s299 s300 s301 s302 s303 s304 s305 s306 s307 s308 s309 s310 s311 s312 s313 s314 s315 s316 s317 s318 s319 s320 s321 s322 s323 : Value} {bc bs bt bi ot oi nt ct nc cc kt kp m1 r1 m2 r2 : Nat} {v0 v1 v2 v3 v4 v5 : Int} {i1 i2 : Option Addr} {w : World}
  (l0 : bc < w.heap.size) (l1 : bs < w.heap.size) (l2 : bt < w.heap.size) (l3 : bi < w.heap.size) (k0 : (kt : Int) < (nt : Int)) (k1 : (kp : Int) < (nc : Int))
  (e : ∀ w',w' = w→(w'.cell? ⟨bc,2,none⟩ = some (.slice (some ⟨bt,ot,none⟩) nt ct)∧w'.cell? ⟨bs,0,none⟩ = some (.int .i64 (kt : Int))∧w'.cell? ⟨bs,1,none⟩ = some (.int .i64 (kp : Int))∧w'.cell? ⟨bt,ot + kt * 3 + 1,none⟩ = some (.slice (some ⟨bi,oi,none⟩) nc cc)∧w'.cell? ⟨bi,oi + kp * 8,none⟩ = some (.int .i64 v0)∧w'.cell? ⟨bi,oi + kp * 8 + 1,none⟩ = some (.int .i64 v1)∧w'.cell? ⟨bi,oi + kp * 8 + 2,none⟩ = some (.int .i64 v2)∧w'.cell? ⟨bi,oi + kp * 8 + 3,none⟩ = some (.int .i64 v3)∧w'.cell? ⟨bi,oi + kp * 8 + 4,none⟩ = some (.int .i64 v4)∧w'.cell? ⟨bi,oi + kp * 8 + 5,none⟩ = some (.int .i64 v5)∧w'.cell? ⟨bi,oi + kp * 8 + 6,none⟩ = some (.slice i1 m1 r1)∧w'.cell? ⟨bi,oi + kp * 8 + 7,none⟩ = some (.slice i2 m2 r2)))
  (h : ∀ W,VarAt W w.heap.size [.int .i64 v0,.int .i64 v1,.int .i64 v2,.int .i64 v3,.int .i64 v4,.int .i64 v5,.slice i1 m1 r1,.slice i2 m2 r2] 58→Below w.heap.size w W→∀ g2 : Nat→Value,Q .normal ⟨(s0 :: .pointer (some ⟨bc,0,none⟩) :: s2 :: s3 :: s4 :: s5 :: s6 :: s7 :: s8 :: s9 :: s10 :: s11 :: s12 :: s13 :: s14 :: s15 :: s16 :: s17 :: .pointer (some ⟨bs,0,none⟩) :: .pointer (some ⟨w.heap.size,0,none⟩) :: s20 :: s21 :: s22 :: s23 :: s24 :: s25 :: s26 :: s27 :: s28 :: s29 :: s30 :: s31 :: s32 :: s33 :: s34 :: s35 :: s36 :: s37 :: s38 :: s39 :: s40 :: s41 :: s42 :: s43 :: s44 :: s45 :: s46 :: s47 :: s48 :: s49 :: s50 :: s51 :: s52 :: s53 :: s54 :: s55 :: s56 :: s57 :: s58 :: s59 :: s60 :: s61 :: s62 :: s63 :: s64 :: s65 :: s66 :: s67 :: s68 :: s69 :: s70 :: s71 :: s72 :: s73 :: s74 :: s75 :: s76 :: s77 :: s78 :: s79 :: s80 :: s81 :: s82 :: s83 :: s84 :: s85 :: s86 :: s87 :: s88 :: s89 :: s90 :: s91 :: s92 :: s93 :: s94 :: s95 :: s96 :: s97 :: s98 :: s99 :: s100 :: s101 :: s102 :: s103 :: s104 :: s105 :: s106 :: s107 :: s108 :: s109 :: s110 :: s111 :: s112 :: s113 :: s114 :: s115 :: s116 :: s117 :: s118 :: s119 :: s120 :: s121 :: s122 :: s123 :: s124 :: s125 :: s126 :: s127 :: s128 :: s129 :: s130 :: s131 :: s132 :: s133 :: s134 :: s135 :: s136 :: s137 :: s138 :: s139 :: s140 :: s141 :: s142 :: s143 :: s144 :: s145 :: s146 :: s147 :: s148 :: s149 :: s150 :: s151 :: s152 :: s153 :: s154 :: s155 :: s156 :: s157 :: s158 :: s159 :: s160 :: s161 :: s162 :: s163 :: s164 :: s165 :: s166 :: s167 :: s168 :: s169 :: s170 :: s171 :: s172 :: s173 :: s174 :: s175 :: s176 :: s177 :: s178 :: s179 :: s180 :: s181 :: s182 :: s183 :: s184 :: s185 :: s186 :: s187 :: s188 :: s189 :: s190 :: s191 :: s192 :: s193 :: s194 :: s195 :: s196 :: s197 :: s198 :: s199 :: s200 :: s201 :: s202 :: s203 :: s204 :: s205 :: s206 :: s207 :: s208 :: s209 :: s210 :: s211 :: s212 :: s213 :: s214 :: s215 :: s216 :: s217 :: s218 :: s219 :: s220 :: s221 :: s222 :: s223 :: s224 :: s225 :: s226 :: s227 :: s228 :: s229 :: s230 :: s231 :: s232 :: s233 :: s234 :: s235 :: s236 :: s237 :: s238 :: s239 :: s240 :: s241 :: s242 :: s243 :: s244 :: s245 :: s246 :: s247 :: s248 :: s249 :: s250 :: s251 :: s252 :: s253 :: s254 :: s255 :: s256 :: s257 :: s258 :: s259 :: s260 :: s261 :: s262 :: s263 :: s264 :: s265 :: s266 :: s267 :: s268 :: s269 :: s270 :: s271 :: s272 :: s273 :: s274 :: s275 :: s276 :: g2 277 :: g2 278 :: g2 279 :: g2 280 :: g2 281 :: g2 282 :: g2 283 :: g2 284 :: g2 285 :: g2 286 :: g2 287 :: s288 :: s289 :: s290 :: s291 :: s292 :: s293 :: s294 :: s295 :: s296 :: s297 :: s298 :: s299 :: s300 :: s301 :: s302 :: s303 :: s304 :: s305 :: s306 :: s307 :: s308 :: s309 :: s310 :: s311 :: s312 :: s313 :: s314 :: s315 :: s316 :: s317 :: s318 :: s319 :: s320 :: s321 :: s322 :: s323 :: []).toArray,[]⟩ W) :
  (Code.region 48 #[⟨some 277,.fieldAddr 41 (.tmp 1) 2,0,"ref.go:207",#[],none⟩,⟨some 278,.load 37 (.tmp 277),37,"ref.go:207",#[⟨0,.data⟩],none⟩,⟨some 279,.fieldAddr 66 (.tmp 18) 0,0,"ref.go:207",#[],none⟩,⟨some 280,.load 3 (.tmp 279),3,"ref.go:207",#[⟨2,.data⟩],none⟩,⟨some 281,.indexAddr 37 (.tmp 278) (.tmp 280),0,"ref.go:207",#[⟨1,.data⟩,⟨3,.data⟩],none⟩,⟨some 282,.fieldAddr 55 (.tmp 281) 1,0,"ref.go:207",#[⟨4,.data⟩],none⟩,⟨some 283,.load 53 (.tmp 282),53,"ref.go:207",#[⟨5,.data⟩],none⟩,⟨some 284,.fieldAddr 66 (.tmp 18) 1,0,"ref.go:207",#[],none⟩,⟨some 285,.load 3 (.tmp 284),3,"ref.go:207",#[⟨7,.data⟩],none⟩,⟨some 286,.indexAddr 53 (.tmp 283) (.tmp 285),0,"ref.go:207",#[⟨6,.data⟩,⟨8,.data⟩],none⟩,⟨some 287,.load 58 (.tmp 286),58,"ref.go:207",#[⟨9,.data⟩],none⟩,⟨some 19,.alloc 58,0,"ref.go:207",#[],none⟩,⟨none,.store 58 (.tmp 19) (.tmp 287),0,"ref.go:207",#[⟨11,.data⟩,⟨10,.data⟩,⟨0,.phase⟩,⟨1,.phase⟩,⟨2,.phase⟩,⟨3,.phase⟩,⟨4,.phase⟩,⟨5,.phase⟩,⟨6,.phase⟩,⟨7,.phase⟩,⟨8,.phase⟩,⟨9,.phase⟩,⟨10,.phase⟩,⟨11,.phase⟩],none⟩] true).wp Tryd.prog Q ⟨(s0 :: .pointer (some ⟨bc,0,none⟩) :: s2 :: s3 :: s4 :: s5 :: s6 :: s7 :: s8 :: s9 :: s10 :: s11 :: s12 :: s13 :: s14 :: s15 :: s16 :: s17 :: .pointer (some ⟨bs,0,none⟩) :: s19 :: s20 :: s21 :: s22 :: s23 :: s24 :: s25 :: s26 :: s27 :: s28 :: s29 :: s30 :: s31 :: s32 :: s33 :: s34 :: s35 :: s36 :: s37 :: s38 :: s39 :: s40 :: s41 :: s42 :: s43 :: s44 :: s45 :: s46 :: s47 :: s48 :: s49 :: s50 :: s51 :: s52 :: s53 :: s54 :: s55 :: s56 :: s57 :: s58 :: s59 :: s60 :: s61 :: s62 :: s63 :: s64 :: s65 :: s66 :: s67 :: s68 :: s69 :: s70 :: s71 :: s72 :: s73 :: s74 :: s75 :: s76 :: s77 :: s78 :: s79 :: s80 :: s81 :: s82 :: s83 :: s84 :: s85 :: s86 :: s87 :: s88 :: s89 :: s90 :: s91 :: s92 :: s93 :: s94 :: s95 :: s96 :: s97 :: s98 :: s99 :: s100 :: s101 :: s102 :: s103 :: s104 :: s105 :: s106 :: s107 :: s108 :: s109 :: s110 :: s111 :: s112 :: s113 :: s114 :: s115 :: s116 :: s117 :: s118 :: s119 :: s120 :: s121 :: s122 :: s123 :: s124 :: s125 :: s126 :: s127 :: s128 :: s129 :: s130 :: s131 :: s132 :: s133 :: s134 :: s135 :: s136 :: s137 :: s138 :: s139 :: s140 :: s141 :: s142 :: s143 :: s144 :: s145 :: s146 :: s147 :: s148 :: s149 :: s150 :: s151 :: s152 :: s153 :: s154 :: s155 :: s156 :: s157 :: s158 :: s159 :: s160 :: s161 :: s162 :: s163 :: s164 :: s165 :: s166 :: s167 :: s168 :: s169 :: s170 :: s171 :: s172 :: s173 :: s174 :: s175 :: s176 :: s177 :: s178 :: s179 :: s180 :: s181 :: s182 :: s183 :: s184 :: s185 :: s186 :: s187 :: s188 :: s189 :: s190 :: s191 :: s192 :: s193 :: s194 :: s195 :: s196 :: s197 :: s198 :: s199 :: s200 :: s201 :: s202 :: s203 :: s204 :: s205 :: s206 :: s207 :: s208 :: s209 :: s210 :: s211 :: s212 :: s213 :: s214 :: s215 :: s216 :: s217 :: s218 :: s219 :: s220 :: s221 :: s222 :: s223 :: s224 :: s225 :: s226 :: s227 :: s228 :: s229 :: s230 :: s231 :: s232 :: s233 :: s234 :: s235 :: s236 :: s237 :: s238 :: s239 :: s240 :: s241 :: s242 :: s243 :: s244 :: s245 :: s246 :: s247 :: s248 :: s249 :: s250 :: s251 :: s252 :: s253 :: s254 :: s255 :: s256 :: s257 :: s258 :: s259 :: s260 :: s261 :: s262 :: s263 :: s264 :: s265 :: s266 :: s267 :: s268 :: s269 :: s270 :: s271 :: s272 :: s273 :: s274 :: s275 :: s276 :: s277 :: s278 :: s279 :: s280 :: s281 :: s282 :: s283 :: s284 :: s285 :: s286 :: s287 :: s288 :: s289 :: s290 :: s291 :: s292 :: s293 :: s294 :: s295 :: s296 :: s297 :: s298 :: s299 :: s300 :: s301 :: s302 :: s303 :: s304 :: s305 :: s306 :: s307 :: s308 :: s309 :: s310 :: s311 :: s312 :: s313 :: s314 :: s315 :: s316 :: s317 :: s318 :: s319 :: s320 :: s321 :: s322 :: s323 :: []).toArray,[]⟩ w:=by
 refine Code.wp_mono (Q:=Exit.then (Q .normal) (fun _ _ _=>False)) (fun e a w hh=>by cases e <;> first | exact hh | exact hh.elim) ?_
 obtain ⟨e0,e1,e2,e3,d0,d1,d2,d3,d4,d5,d6,d7⟩:=e w rfl
 have SK : Hid (∀ w',Below w.heap.size w w'→(w'.cell? ⟨bc,2,none⟩ = some (.slice (some ⟨bt,ot,none⟩) nt ct)∧w'.cell? ⟨bs,0,none⟩ = some (.int .i64 (kt : Int))∧w'.cell? ⟨bs,1,none⟩ = some (.int .i64 (kp : Int))∧w'.cell? ⟨bt,ot + kt * 3 + 1,none⟩ = some (.slice (some ⟨bi,oi,none⟩) nc cc)∧w'.cell? ⟨bi,oi + kp * 8,none⟩ = some (.int .i64 v0)∧w'.cell? ⟨bi,oi + kp * 8 + 1,none⟩ = some (.int .i64 v1)∧w'.cell? ⟨bi,oi + kp * 8 + 2,none⟩ = some (.int .i64 v2)∧w'.cell? ⟨bi,oi + kp * 8 + 3,none⟩ = some (.int .i64 v3)∧w'.cell? ⟨bi,oi + kp * 8 + 4,none⟩ = some (.int .i64 v4)∧w'.cell? ⟨bi,oi + kp * 8 + 5,none⟩ = some (.int .i64 v5)∧w'.cell? ⟨bi,oi + kp * 8 + 6,none⟩ = some (.slice i1 m1 r1)∧w'.cell? ⟨bi,oi + kp * 8 + 7,none⟩ = some (.slice i2 m2 r2))):=hid (fun w' hb=>⟨(hb.cell (p:=⟨bc,2,none⟩) l0).trans e0,(hb.cell (p:=⟨bs,0,none⟩) l1).trans e1,(hb.cell (p:=⟨bs,1,none⟩) l1).trans e2,(hb.cell (p:=⟨bt,_,none⟩) l2).trans e3,(hb.cell (p:=⟨bi,_,none⟩) l3).trans d0,(hb.cell (p:=⟨bi,_,none⟩) l3).trans d1,(hb.cell (p:=⟨bi,_,none⟩) l3).trans d2,(hb.cell (p:=⟨bi,_,none⟩) l3).trans d3,(hb.cell (p:=⟨bi,_,none⟩) l3).trans d4,(hb.cell (p:=⟨bi,_,none⟩) l3).trans d5,(hb.cell (p:=⟨bi,_,none⟩) l3).trans d6,(hb.cell (p:=⟨bi,_,none⟩) l3).trans d7⟩)
 clear e e0 e1 e2 e3 d0 d1 d2 d3 d4 d5 d6 d7
 have B0:=hid (Below.refl w.heap.size w).drew
 refine wp_region_held_drew (S:=fun (w' : World)=>w'.cell? ⟨bc,2,none⟩ = some (.slice (some ⟨bt,ot,none⟩) nt ct)∧w'.cell? ⟨bs,0,none⟩ = some (.int .i64 (kt : Int))∧w'.cell? ⟨bs,1,none⟩ = some (.int .i64 (kp : Int))∧w'.cell? ⟨bt,ot + kt * 3 + 1,none⟩ = some (.slice (some ⟨bi,oi,none⟩) nc cc)∧w'.cell? ⟨bi,oi + kp * 8,none⟩ = some (.int .i64 v0)∧w'.cell? ⟨bi,oi + kp * 8 + 1,none⟩ = some (.int .i64 v1)∧w'.cell? ⟨bi,oi + kp * 8 + 2,none⟩ = some (.int .i64 v2)∧w'.cell? ⟨bi,oi + kp * 8 + 3,none⟩ = some (.int .i64 v3)∧w'.cell? ⟨bi,oi + kp * 8 + 4,none⟩ = some (.int .i64 v4)∧w'.cell? ⟨bi,oi + kp * 8 + 5,none⟩ = some (.int .i64 v5)∧w'.cell? ⟨bi,oi + kp * 8 + 6,none⟩ = some (.slice i1 m1 r1)∧w'.cell? ⟨bi,oi + kp * 8 + 7,none⟩ = some (.slice i2 m2 r2)) (by kernel_rfl) (SK.out _ B0.out) (fun hHeld=>?_)
 refine wT 0 ⟨some 277,.fieldAddr 41 (.tmp 1) 2,0,"ref.go:207",#[],none⟩ hHeld ?_
 try simp only [Act.put,sA,sB,sC]
 refine wT 1 ⟨some 278,.load 37 (.tmp 277),37,"ref.go:207",#[⟨0,.data⟩],none⟩ hHeld ?_
 try simp only [Act.put,sA,sB,sC]
 refine wT 2 ⟨some 279,.fieldAddr 66 (.tmp 18) 0,0,"ref.go:207",#[],none⟩ hHeld ?_
 try simp only [Act.put,sA,sB,sC]
 refine wT 3 ⟨some 280,.load 3 (.tmp 279),3,"ref.go:207",#[⟨2,.data⟩],none⟩ hHeld ?_
 try simp only [Act.put,sA,sB,sC]
 refine wT 4 ⟨some 281,.indexAddr 37 (.tmp 278) (.tmp 280),0,"ref.go:207",#[⟨1,.data⟩,⟨3,.data⟩],none⟩ hHeld ?_
 try simp only [Act.put,sA,sB,sC]
 refine wT 5 ⟨some 282,.fieldAddr 55 (.tmp 281) 1,0,"ref.go:207",#[⟨4,.data⟩],none⟩ hHeld ?_
 try simp only [Act.put,sA,sB,sC]
 refine wT 6 ⟨some 283,.load 53 (.tmp 282),53,"ref.go:207",#[⟨5,.data⟩],none⟩ hHeld ?_
 try simp only [Act.put,sA,sB,sC]
 refine wT 7 ⟨some 284,.fieldAddr 66 (.tmp 18) 1,0,"ref.go:207",#[],none⟩ hHeld ?_
 try simp only [Act.put,sA,sB,sC]
 refine wT 8 ⟨some 285,.load 3 (.tmp 284),3,"ref.go:207",#[⟨7,.data⟩],none⟩ hHeld ?_
 try simp only [Act.put,sA,sB,sC]
 refine wT 9 ⟨some 286,.indexAddr 53 (.tmp 283) (.tmp 285),0,"ref.go:207",#[⟨6,.data⟩,⟨8,.data⟩],none⟩ hHeld ?_
 try simp only [Act.put,sA,sB,sC]
 refine wT 10 ⟨some 287,.load 58 (.tmp 286),58,"ref.go:207",#[⟨9,.data⟩],none⟩ hHeld ?_
 try simp only [Act.put,sA,sB,sC]
 refine wO 11 ⟨some 19,.alloc 58,0,"ref.go:207",#[],none⟩ (fun K' hK'=>?_)
 go_simp
 have V1:=hid (VarAt.new w.drew [.int .i64 0,.int .i64 0,.int .i64 0,.int .i64 0,.int .i64 0,.int .i64 0,.slice none 0 0,.slice none 0 0] 58)
 have B1:=hid (B0.out.alloc B0.out.size (.cells #[.int .i64 0,.int .i64 0,.int .i64 0,.int .i64 0,.int .i64 0,.int .i64 0,.slice none 0 0,.slice none 0 0] 58))
 try simp only [size_drew] at V1
 refine hK'.out _ _ (SK.out _ B1.out) (fun hHeld=>?_)
 clear hK' K'
 try simp only [Act.put,sA,sB,sC]
 refine wO 12 ⟨none,.store 58 (.tmp 19) (.tmp 287),0,"ref.go:207",#[⟨11,.data⟩,⟨10,.data⟩,⟨0,.phase⟩,⟨1,.phase⟩,⟨2,.phase⟩,⟨3,.phase⟩,⟨4,.phase⟩,⟨5,.phase⟩,⟨6,.phase⟩,⟨7,.phase⟩,⟨8,.phase⟩,⟨9,.phase⟩,⟨10,.phase⟩,⟨11,.phase⟩],none⟩ (fun K' hK'=>?_)
 refine step_store 58 _ _ (by rfl) (by rfl) _ (by rfl) [.int .i64 v0,.int .i64 v1,.int .i64 v2,.int .i64 v3,.int .i64 v4,.int .i64 v5,.slice i1 m1 r1,.slice i2 m2 r2] (by rfl) (by kernel_rfl) (one8 _ _ _ _ _ _ _ _ _ _ _ _) _ 58 V1.out rfl rfl ?_
 intro w3 hv hu
 have B2:=hid (hu.below B1.out (Nat.le_refl _))
 refine hK'.out _ _ (SK.out _ B2.out) (fun hHeld=>?_)
 clear hK' K'
 try simp only [Act.put,sA,sB,sC]
 refine wpAnyH_done (by kernel_rfl) ?_ _
 exact h w3 hv B2.out (fun k=>((.pointer (some ⟨bc,2,none⟩) :: .slice (some ⟨bt,ot,none⟩) nt ct :: .pointer (some ⟨bs,0,none⟩) :: .int .i64 (kt : Int) :: .pointer (some ⟨bt,ot + kt * 3,none⟩) :: .pointer (some ⟨bt,ot + kt * 3 + 1,none⟩) :: .slice (some ⟨bi,oi,none⟩) nc cc :: .pointer (some ⟨bs,1,none⟩) :: .int .i64 (kp : Int) :: .pointer (some ⟨bi,oi + kp * 8,none⟩) :: .agg #[.int .i64 v0,.int .i64 v1,.int .i64 v2,.int .i64 v3,.int .i64 v4,.int .i64 v5,.slice i1 m1 r1,.slice i2 m2 r2] :: [] : List Value)).getD (k - 277) undef)
end Go.Proofs.YtdpbapoahfggeaaDoor

/- The document's Good: its loop over the sites. -/
namespace Go.Proofs.YtdpbapoahfggeaaDoor
open Go.ChangeShapes Go.WideShapes Go.ChangeAt Go.RowKit
set_option linter.unusedVariables false
set_option linter.unusedSimpArgs false

set_option maxRecDepth 100000 in
set_option maxHeartbeats 4000000 in
theorem stm6_any {Q : Exit→Act→World→Prop} {g : Nat→Value} {bc : Nat} (c : Cd) (w : World) (hc : c.okW w) (hs : SmallP c) (KC : BoxAt w bc [c.rv,c.gv,c.tv,c.ev,c.cv])
  (hret : ∀ (a' : Act) (W : World),a'.tmps.getD 2 undef = .bool false→a'.defers = []→Below w.heap.size w W→¬ (∀ (i : Nat) (s : Ste),c.sites[i]? = some s→steOk c i s)→Q .ret a' W)
  (hnext : ∀ (a' : Act) (W : World),a'.tmps.size = 324→a'.tmps.getD 1 undef = .pointer (some ⟨bc,0,none⟩)→a'.defers = []→Below w.heap.size w W→(∀ (i : Nat) (s : Ste),c.sites[i]? = some s→steOk c i s)→Q .normal a' W) :
  ((((Tryd.f14.body.map spineC).getD [])[6]?).getD Code.skip).wp Tryd.prog Q ⟨(g 0 :: .pointer (some ⟨bc,0,none⟩) :: g 2 :: g 3 :: g 4 :: g 5 :: g 6 :: g 7 :: g 8 :: g 9 :: g 10 :: g 11 :: g 12 :: g 13 :: g 14 :: g 15 :: g 16 :: g 17 :: g 18 :: g 19 :: g 20 :: g 21 :: g 22 :: g 23 :: g 24 :: g 25 :: g 26 :: g 27 :: g 28 :: g 29 :: g 30 :: g 31 :: g 32 :: g 33 :: g 34 :: g 35 :: g 36 :: g 37 :: g 38 :: g 39 :: g 40 :: g 41 :: g 42 :: g 43 :: g 44 :: g 45 :: g 46 :: g 47 :: g 48 :: g 49 :: g 50 :: g 51 :: g 52 :: g 53 :: g 54 :: g 55 :: g 56 :: g 57 :: g 58 :: g 59 :: g 60 :: g 61 :: g 62 :: g 63 :: g 64 :: g 65 :: g 66 :: g 67 :: g 68 :: g 69 :: g 70 :: g 71 :: g 72 :: g 73 :: g 74 :: g 75 :: g 76 :: g 77 :: g 78 :: g 79 :: g 80 :: g 81 :: g 82 :: g 83 :: g 84 :: g 85 :: g 86 :: g 87 :: g 88 :: g 89 :: g 90 :: g 91 :: g 92 :: g 93 :: g 94 :: g 95 :: g 96 :: g 97 :: g 98 :: g 99 :: g 100 :: g 101 :: g 102 :: g 103 :: g 104 :: g 105 :: g 106 :: g 107 :: g 108 :: g 109 :: g 110 :: g 111 :: g 112 :: g 113 :: g 114 :: g 115 :: g 116 :: g 117 :: g 118 :: g 119 :: g 120 :: g 121 :: g 122 :: g 123 :: g 124 :: g 125 :: g 126 :: g 127 :: g 128 :: g 129 :: g 130 :: g 131 :: g 132 :: g 133 :: g 134 :: g 135 :: g 136 :: g 137 :: g 138 :: g 139 :: g 140 :: g 141 :: g 142 :: g 143 :: g 144 :: g 145 :: g 146 :: g 147 :: g 148 :: g 149 :: g 150 :: g 151 :: g 152 :: g 153 :: g 154 :: g 155 :: g 156 :: g 157 :: g 158 :: g 159 :: g 160 :: g 161 :: g 162 :: g 163 :: g 164 :: g 165 :: g 166 :: g 167 :: g 168 :: g 169 :: g 170 :: g 171 :: g 172 :: g 173 :: g 174 :: g 175 :: g 176 :: g 177 :: g 178 :: g 179 :: g 180 :: g 181 :: g 182 :: g 183 :: g 184 :: g 185 :: g 186 :: g 187 :: g 188 :: g 189 :: g 190 :: g 191 :: g 192 :: g 193 :: g 194 :: g 195 :: g 196 :: g 197 :: g 198 :: g 199 :: g 200 :: g 201 :: g 202 :: g 203 :: g 204 :: g 205 :: g 206 :: g 207 :: g 208 :: g 209 :: g 210 :: g 211 :: g 212 :: g 213 :: g 214 :: g 215 :: g 216 :: g 217 :: g 218 :: g 219 :: g 220 :: g 221 :: g 222 :: g 223 :: g 224 :: g 225 :: g 226 :: g 227 :: g 228 :: g 229 :: g 230 :: g 231 :: g 232 :: g 233 :: g 234 :: g 235 :: g 236 :: g 237 :: g 238 :: g 239 :: g 240 :: g 241 :: g 242 :: g 243 :: g 244 :: g 245 :: g 246 :: g 247 :: g 248 :: g 249 :: g 250 :: g 251 :: g 252 :: g 253 :: g 254 :: g 255 :: g 256 :: g 257 :: g 258 :: g 259 :: g 260 :: g 261 :: g 262 :: g 263 :: g 264 :: g 265 :: g 266 :: g 267 :: g 268 :: g 269 :: g 270 :: g 271 :: g 272 :: g 273 :: g 274 :: g 275 :: g 276 :: g 277 :: g 278 :: g 279 :: g 280 :: g 281 :: g 282 :: g 283 :: g 284 :: g 285 :: g 286 :: g 287 :: g 288 :: g 289 :: g 290 :: g 291 :: g 292 :: g 293 :: g 294 :: g 295 :: g 296 :: g 297 :: g 298 :: g 299 :: g 300 :: g 301 :: g 302 :: g 303 :: g 304 :: g 305 :: g 306 :: g 307 :: g 308 :: g 309 :: g 310 :: g 311 :: g 312 :: g 313 :: g 314 :: g 315 :: g 316 :: g 317 :: g 318 :: g 319 :: g 320 :: g 321 :: g 322 :: g 323 :: []).toArray,[]⟩ w:=by
 obtain ⟨a0,p0,a1,p1,a2,p2,a3,p3,a4,p4,e0,e1,e2,e3,e4⟩:=cd_open hc
 obtain ⟨at',ct,et,hT⟩:=bd_cells hc.2.2.1
 rw [e2] at et;cases et
 have hst:=hc.2.2.2.1
 rw [e3] at hst
 rw [e0,e1,e2,e3,e4] at KC
 have q3 : c.threads.length≤1000:=hs.l3
 have q4 : c.sites.length≤1000:=hs.l4
 have hcode:=hid hs.code
 clear e0 e1 e2 e3 e4 hc hs
 have lc:=KC.1
 have B0:=hid (Below.refl w.heap.size w)
 replace KC:=hid KC
 replace hT:=hid hT
 replace hst:=hid hst
 replace hret:=hid hret
 replace hnext:=hid hnext
 conv=>arg 2;whnf
 have c3:=KC.out.2 3 _ rfl
 go_wp2_with fail
 clear c3
 go_loopw [251] (fun t wr=>∃ j : Nat,t = .int .i64 j∧j≤c.sites.length∧Hid (∀ (i : Nat) (s : Ste),i < j→c.sites[i]? = some s→steOk c i s)∧Hid (Below w.heap.size w wr)) (fun t _=>c.sites.length - (intOf t).toNat)
 case atStart=>exact ⟨0,rfl,by omega,hid (fun i x h=>by omega),B0⟩
 case round =>
  clear B0
  obtain ⟨i,rfl,hi,E,B⟩:=hrel
  by_cases hin : i < c.sites.length
  rotate_left
  ·have R2 : Hid (∀ (i : Nat) (s : Ste),c.sites[i]? = some s→steOk c i s):=hid (fun i t ht=>E.out i t (by have:=(List.getElem?_eq_some_iff.1 ht).1;omega) ht)
   clear E hT hst
   go_wp2_with fail
   exact hnext.out _ _ rfl rfl rfl B.out R2.out
  obtain ⟨st,hs⟩ : ∃ q,c.sites[i]? = some q:=⟨c.sites[i],by simp [hin]⟩
  obtain ⟨b,off,cp,es,hb,u0,u1,u2⟩:=ste_cells hst.out hs
  cases es
  obtain ⟨sth,spl,src⟩:=st
  simp only at u0 u1 u2
  rw [← B.out.cell hb] at u0 u1 u2
  have lb:=Nat.lt_of_lt_of_le hb B.out.size
  replace hs:=hid hs
  have KC2:=hid (KC.out.kept B.out)
  have lc2 : _ < _:=KC2.out.1
  have BX:=hid (B.out.alloc B.out.size (.cells #[.int .i64 sth,.int .i64 spl,.int .i64 src] 66))
  cases rT : isIn sth c.threads.length
  ·have N1:=hid (fun W=>by have h:=in_any sth (c.threads.length : Int) c.threads.length rfl W;rw [rT] at h;exact h)
   have G : Hid (¬ (∀ (i : Nat) (s : Ste),c.sites[i]? = some s→steOk c i s)):=hid (fun h=>ste_no (insAt_n1 rT) (h i _ hs.out))
   obtain ⟨c0,c1,c2,c3,c4⟩:=five0 KC2.out
   clear E hT hst rT KC2
   go_wp2_with fail
   go_quiet ((first | (go_at_call 20;exact Calls.quiet_of_same (N1.out _))))
   go_wp2_with fail
   exact hret.out _ _ rfl rfl (below_drewN BX.out nq) G.out
  have N1:=fun W=>in_any sth (c.threads.length : Int) c.threads.length rfl W
  rw [rT] at N1
  obtain ⟨kt,rfl,hkt⟩:=isIn_nat rT
  replace N1:=hid N1
  obtain ⟨x,bt,ot,a5,p5,a6,p6,hx,ha,hbt,e5,e6,t0,t1,t2,ok⟩:=hT.out kt hkt
  cases ha
  have kt2 : (kt : Int) < (c.threads.length : Int):=by omega
  have qc:=hcode.out kt x hx
  rw [← B.out.cell hbt] at t0 t1 t2
  have lbt:=Nat.lt_of_lt_of_le hbt B.out.size
  obtain ⟨ai,ci,ei,hI⟩:=ins_cells ok.2.2
  rw [e6] at ei;cases ei
  replace hx:=hid hx
  replace hI:=hid hI
  clear e5 e6 ok rT
  cases rP : isIn spl x.code.length
  ·have N2:=hid (fun W=>by have h:=in_any spl (x.code.length : Int) x.code.length rfl W;rw [rP] at h;exact h)
   have G : Hid (¬ (∀ (i : Nat) (s : Ste),c.sites[i]? = some s→steOk c i s)):=hid (fun h=>ste_no (insAt_n2 hx.out rP) (h i _ hs.out))
   obtain ⟨c0,c1,c2,c3,c4⟩:=five0 KC2.out
   clear E hT hst rP KC2 hI
   go_wp2_with fail
   go_quiet ((first | (go_at_call 20;with_reducible exact Calls.quiet_of_same (N1.out _)) | (go_at_call 20;with_reducible exact Calls.quiet_of_same (N2.out _))))
   go_wp2_with fail
   exact hret.out _ _ rfl rfl (below_drewN BX.out nq) G.out
  have N2:=fun W=>in_any spl (x.code.length : Int) x.code.length rfl W
  rw [rP] at N2
  obtain ⟨kp,rfl,hkp⟩:=isIn_nat rP
  replace N2:=hid N2
  obtain ⟨y,bi,oi,a7,p7,a8,p8,hy,ha,hbi,e7,e8,⟨d0,d1,d2,d3,d4,d5,d6,d7⟩,yok⟩:=hI.out kp hkp
  cases ha
  have kp2 : (kp : Int) < (x.code.length : Int):=by omega
  rw [← B.out.cell hbi] at d0 d1 d2 d3 d4 d5 d6 d7
  have lbi:=Nat.lt_of_lt_of_le hbi B.out.size
  have eI:=insAt_i0 hx.out hy
  have SO : Hid (steOk c i ⟨(kt : Int),(kp : Int),src⟩↔((y.op = 8∨y.op = 9)∧y.n = i)):=hid (by unfold steOk;simp only;rw [eI])
  clear e7 e8 yok rP eI hI hT hst
  replace hy:=hid hy
  obtain ⟨c0,c1,c2,c3,c4⟩:=five0 KC2.out
  clear KC2
  go_wp2_with fail
  go_quiet ((first | (go_at_call 20;with_reducible exact Calls.quiet_of_same (N1.out _)) | (go_at_call 20;with_reducible exact Calls.quiet_of_same (N2.out _))))
  clear N1 N2
  go_wp2_with fail
  have hY:=hid (below_drewN ((Below.refl wr.heap.size wr).alloc (Nat.le_refl _) (.cells #[.int .i64 (kt : Int),.int .i64 (kp : Int),.int .i64 src] 66)) nq)
  have KS:=hid ((BoxAt.new wr #[.int .i64 (kt : Int),.int .i64 (kp : Int),.int .i64 src] 66).kept (below_drewN (Below.refl _ _) nq))
  refine region48_any (Nat.lt_of_lt_of_le lc2 hY.out.size) KS.out.1 (Nat.lt_of_lt_of_le lbt hY.out.size) (Nat.lt_of_lt_of_le lbi hY.out.size) kt2 kp2 (by rintro w' rfl;exact ⟨(hY.out.cell lc2).trans c2,KS.out.2 0 _ rfl,KS.out.2 1 _ rfl,(hY.out.cell lbt).trans t1,(hY.out.cell lbi).trans d0,(hY.out.cell lbi).trans d1,(hY.out.cell lbi).trans d2,(hY.out.cell lbi).trans d3,(hY.out.cell lbi).trans d4,(hY.out.cell lbi).trans d5,(hY.out.cell lbi).trans d6,(hY.out.cell lbi).trans d7⟩) ?_
  intro w5 hv hb5 g2
  have B5:=hid (bover (below_drewN BX.out nq) hb5)
  have hX : ((wr.alloc (.cells #[.int .i64 (kt : Int),.int .i64 (kp : Int),.int .i64 src] 66)).drewN nq).heap.size = wr.heap.size + 1:=by show (wr.alloc _).heap.size = _;simp only [World.size_alloc]
  rw [hX] at hv
  obtain ⟨m0,m1,m2,m3,m4,m5,m6,m7⟩:=eight hv.box
  clear hv hb5 hX hY KS BX B c0 c1 c2 c3 c4 t0 t1 t2 d0 d1 d2 d3 d4 d5 d6 d7 u0 u1 u2
  cases z1 : (y.n != (i : Int))
  rotate_left
  ·have G : Hid (¬ (∀ (i : Nat) (s : Ste),c.sites[i]? = some s→steOk c i s)):=hid (fun h=>by have h2:=(SO.out.1 (h i _ hs.out)).2;rw [h2] at z1;simp at z1)
   clear E SO
   go_wp2_with fail
   exact hret.out _ _ rfl rfl B5.out G.out
  have z1e : y.n = (i : Int):=by simpa using z1
  cases z2 : (y.op != 8)
  ·have z2e : y.op = 8:=by simpa using z2
   have G:=hid (SO.out.2 ⟨Or.inl z2e,z1e⟩)
   clear SO z1e z2e
   go_wp2_with fail
   go_roundw
   case rel =>
    refine ⟨i + 1,by go_num,by omega,hid (fun m z hm hz=>?_),B5⟩
    by_cases hmk : m < i
    ·exact E.out m z hmk hz
    ·obtain rfl : m = i:=by omega
     rw [hs.out] at hz
     cases hz
     exact G.out
   case measure=>simp [intOf];omega
  cases z3 : (y.op != 9)
  ·have z3e : y.op = 9:=by simpa using z3
   have G:=hid (SO.out.2 ⟨Or.inr z3e,z1e⟩)
   clear SO z1e z3e
   go_wp2_with fail
   go_roundw
   case rel =>
    refine ⟨i + 1,by go_num,by omega,hid (fun m z hm hz=>?_),B5⟩
    by_cases hmk : m < i
    ·exact E.out m z hmk hz
    ·obtain rfl : m = i:=by omega
     rw [hs.out] at hz
     cases hz
     exact G.out
   case measure=>simp [intOf];omega
  ·have G : Hid (¬ (∀ (i : Nat) (s : Ste),c.sites[i]? = some s→steOk c i s)):=hid (fun h=>by
    rcases (SO.out.1 (h i _ hs.out)).1 with q | q
    ·rw [q] at z2;simp at z2
    ·rw [q] at z3;simp at z3)
   clear E SO z1e
   go_wp2_with fail
   exact hret.out _ _ rfl rfl B5.out G.out
end Go.Proofs.YtdpbapoahfggeaaDoor

/- The document's Good: its loop over the sections. -/
namespace Go.Proofs.YtdpbapoahfggeaaDoor
open Go.ChangeShapes Go.WideShapes Go.ChangeAt Go.RowKit
set_option linter.unusedVariables false
set_option linter.unusedSimpArgs false

set_option maxRecDepth 100000 in
set_option maxHeartbeats 4000000 in
theorem stm5_any {Q : Exit→Act→World→Prop} {g : Nat→Value} {bc : Nat} (c : Cd) (w : World) (hc : c.okW w) (hs : SmallP c) (KC : BoxAt w bc [c.rv,c.gv,c.tv,c.ev,c.cv])
  (hret : ∀ (a' : Act) (W : World),a'.tmps.getD 2 undef = .bool false→a'.defers = []→Below w.heap.size w W→¬ (∀ (i : Nat) (s : Sec),c.secs[i]? = some s→secOk c i s∧∀ (k : Nat) (o : Sec),k ≠ i→c.secs[k]? = some o→meetB s o = false)→Q .ret a' W)
  (hnext : ∀ (a' : Act) (W : World),a'.tmps.size = 324→a'.tmps.getD 1 undef = .pointer (some ⟨bc,0,none⟩)→a'.defers = []→Below w.heap.size w W→(∀ (i : Nat) (s : Sec),c.secs[i]? = some s→secOk c i s∧∀ (k : Nat) (o : Sec),k ≠ i→c.secs[k]? = some o→meetB s o = false)→Q .normal a' W) :
  ((((Tryd.f14.body.map spineC).getD [])[5]?).getD Code.skip).wp Tryd.prog Q ⟨(g 0 :: .pointer (some ⟨bc,0,none⟩) :: g 2 :: g 3 :: g 4 :: g 5 :: g 6 :: g 7 :: g 8 :: g 9 :: g 10 :: g 11 :: g 12 :: g 13 :: g 14 :: g 15 :: g 16 :: g 17 :: g 18 :: g 19 :: g 20 :: g 21 :: g 22 :: g 23 :: g 24 :: g 25 :: g 26 :: g 27 :: g 28 :: g 29 :: g 30 :: g 31 :: g 32 :: g 33 :: g 34 :: g 35 :: g 36 :: g 37 :: g 38 :: g 39 :: g 40 :: g 41 :: g 42 :: g 43 :: g 44 :: g 45 :: g 46 :: g 47 :: g 48 :: g 49 :: g 50 :: g 51 :: g 52 :: g 53 :: g 54 :: g 55 :: g 56 :: g 57 :: g 58 :: g 59 :: g 60 :: g 61 :: g 62 :: g 63 :: g 64 :: g 65 :: g 66 :: g 67 :: g 68 :: g 69 :: g 70 :: g 71 :: g 72 :: g 73 :: g 74 :: g 75 :: g 76 :: g 77 :: g 78 :: g 79 :: g 80 :: g 81 :: g 82 :: g 83 :: g 84 :: g 85 :: g 86 :: g 87 :: g 88 :: g 89 :: g 90 :: g 91 :: g 92 :: g 93 :: g 94 :: g 95 :: g 96 :: g 97 :: g 98 :: g 99 :: g 100 :: g 101 :: g 102 :: g 103 :: g 104 :: g 105 :: g 106 :: g 107 :: g 108 :: g 109 :: g 110 :: g 111 :: g 112 :: g 113 :: g 114 :: g 115 :: g 116 :: g 117 :: g 118 :: g 119 :: g 120 :: g 121 :: g 122 :: g 123 :: g 124 :: g 125 :: g 126 :: g 127 :: g 128 :: g 129 :: g 130 :: g 131 :: g 132 :: g 133 :: g 134 :: g 135 :: g 136 :: g 137 :: g 138 :: g 139 :: g 140 :: g 141 :: g 142 :: g 143 :: g 144 :: g 145 :: g 146 :: g 147 :: g 148 :: g 149 :: g 150 :: g 151 :: g 152 :: g 153 :: g 154 :: g 155 :: g 156 :: g 157 :: g 158 :: g 159 :: g 160 :: g 161 :: g 162 :: g 163 :: g 164 :: g 165 :: g 166 :: g 167 :: g 168 :: g 169 :: g 170 :: g 171 :: g 172 :: g 173 :: g 174 :: g 175 :: g 176 :: g 177 :: g 178 :: g 179 :: g 180 :: g 181 :: g 182 :: g 183 :: g 184 :: g 185 :: g 186 :: g 187 :: g 188 :: g 189 :: g 190 :: g 191 :: g 192 :: g 193 :: g 194 :: g 195 :: g 196 :: g 197 :: g 198 :: g 199 :: g 200 :: g 201 :: g 202 :: g 203 :: g 204 :: g 205 :: g 206 :: g 207 :: g 208 :: g 209 :: g 210 :: g 211 :: g 212 :: g 213 :: g 214 :: g 215 :: g 216 :: g 217 :: g 218 :: g 219 :: g 220 :: g 221 :: g 222 :: g 223 :: g 224 :: g 225 :: g 226 :: g 227 :: g 228 :: g 229 :: g 230 :: g 231 :: g 232 :: g 233 :: g 234 :: g 235 :: g 236 :: g 237 :: g 238 :: g 239 :: g 240 :: g 241 :: g 242 :: g 243 :: g 244 :: g 245 :: g 246 :: g 247 :: g 248 :: g 249 :: g 250 :: g 251 :: g 252 :: g 253 :: g 254 :: g 255 :: g 256 :: g 257 :: g 258 :: g 259 :: g 260 :: g 261 :: g 262 :: g 263 :: g 264 :: g 265 :: g 266 :: g 267 :: g 268 :: g 269 :: g 270 :: g 271 :: g 272 :: g 273 :: g 274 :: g 275 :: g 276 :: g 277 :: g 278 :: g 279 :: g 280 :: g 281 :: g 282 :: g 283 :: g 284 :: g 285 :: g 286 :: g 287 :: g 288 :: g 289 :: g 290 :: g 291 :: g 292 :: g 293 :: g 294 :: g 295 :: g 296 :: g 297 :: g 298 :: g 299 :: g 300 :: g 301 :: g 302 :: g 303 :: g 304 :: g 305 :: g 306 :: g 307 :: g 308 :: g 309 :: g 310 :: g 311 :: g 312 :: g 313 :: g 314 :: g 315 :: g 316 :: g 317 :: g 318 :: g 319 :: g 320 :: g 321 :: g 322 :: g 323 :: []).toArray,[]⟩ w:=by
 obtain ⟨a0,p0,a1,p1,a2,p2,a3,p3,a4,p4,e0,e1,e2,e3,e4⟩:=cd_open hc
 obtain ⟨at',ct,et,hT⟩:=bd_cells hc.2.2.1
 rw [e2] at et;cases et
 have hsc:=hc.2.2.2.2
 rw [e4] at hsc
 rw [e0,e1,e2,e3,e4] at KC
 have x3 : c.threads.length≤1000:=hs.l3
 have x5 : c.secs.length≤1000:=hs.l5
 have hcode:=hid hs.code
 clear e0 e1 e2 e3 e4 hc hs
 have lc:=KC.1
 have B0:=hid (Below.refl w.heap.size w)
 replace KC:=hid KC
 replace hT:=hid hT
 replace hsc:=hid hsc
 replace hret:=hid hret
 replace hnext:=hid hnext
 conv=>arg 2;whnf
 have c4:=KC.out.2 4 _ rfl
 go_wp2_with fail
 clear c4
 go_loopw [136] (fun t wr=>∃ j : Nat,t = .int .i64 j∧j≤c.secs.length∧Hid (∀ (i : Nat) (s : Sec),i < j→c.secs[i]? = some s→secOk c i s∧∀ (k : Nat) (o : Sec),k ≠ i→c.secs[k]? = some o→meetB s o = false)∧Hid (Below w.heap.size w wr)) (fun t _=>c.secs.length - (intOf t).toNat)
 case atStart=>exact ⟨0,rfl,by omega,hid (fun i x h=>by omega),B0⟩
 case round =>
  clear B0
  obtain ⟨i,rfl,hi,E,B⟩:=hrel
  by_cases hin : i < c.secs.length
  rotate_left
  ·have R2 : Hid (∀ (i : Nat) (s : Sec),c.secs[i]? = some s→secOk c i s∧∀ (k : Nat) (o : Sec),k ≠ i→c.secs[k]? = some o→meetB s o = false):=hid (fun i t ht=>E.out i t (by have:=(List.getElem?_eq_some_iff.1 ht).1;omega) ht)
   clear E hT hsc
   go_wp2_with fail
   exact hnext.out _ _ rfl rfl rfl B.out R2.out
  obtain ⟨s,hs⟩ : ∃ q,c.secs[i]? = some q:=⟨c.secs[i],by simp [hin]⟩
  obtain ⟨b,off,cp,es,hb,u0,u1,u2⟩:=sec_cells hsc.out hs
  cases es
  obtain ⟨sth,sfr,sto⟩:=s
  simp only at u0 u1 u2
  rw [← B.out.cell hb] at u0 u1 u2
  have lb:=Nat.lt_of_lt_of_le hb B.out.size
  replace hs:=hid hs
  have KC2:=hid (KC.out.kept B.out)
  have lc2 : _ < _:=KC2.out.1
  have BX:=hid (B.out.alloc B.out.size (.cells #[.int .i64 sth,.int .i64 sfr,.int .i64 sto] 63))
  cases rT : isIn sth c.threads.length
  ·have N1:=hid (fun W=>by have h:=in_any sth (c.threads.length : Int) c.threads.length rfl W;rw [rT] at h;exact h)
   have G : Hid (¬ (∀ (i : Nat) (s : Sec),c.secs[i]? = some s→secOk c i s∧∀ (k : Nat) (o : Sec),k ≠ i→c.secs[k]? = some o→meetB s o = false)):=hid (fun h=>sec_no1 (insAt_n1 rT) (h i _ hs.out).1)
   obtain ⟨c0,c1,c2,c3,c4⟩:=five0 KC2.out
   clear E hT hsc rT KC2
   go_wp2_with fail
   go_quiet ((first | (go_at_call 20;with_reducible exact Calls.quiet_of_same (N1.out _))))
   go_wp2_with fail
   exact hret.out _ _ rfl rfl (below_drewN BX.out nq) G.out
  have N1:=fun W=>in_any sth (c.threads.length : Int) c.threads.length rfl W
  rw [rT] at N1
  obtain ⟨kt,rfl,hkt⟩:=isIn_nat rT
  replace N1:=hid N1
  obtain ⟨x,bt,ot,a5,p5,a6,p6,hx,ha,hbt,e5,e6,t0,t1,t2,ok⟩:=hT.out kt hkt
  cases ha
  have kt2 : (kt : Int) < (c.threads.length : Int):=by omega
  have qc:=hcode.out kt x hx
  rw [← B.out.cell hbt] at t0 t1 t2
  have lbt:=Nat.lt_of_lt_of_le hbt B.out.size
  obtain ⟨ai,ci,ei,hI⟩:=ins_cells ok.2.2
  rw [e6] at ei;cases ei
  replace hx:=hid hx
  replace hI:=hid hI
  clear e5 e6 ok rT
  cases rF : (decide (0≤sfr) && decide (sfr < sto))
  ·have N2:=hid (fun W=>by have h:=inZ_any sfr sto W;rw [rF] at h;exact h)
   have G : Hid (¬ (∀ (i : Nat) (s : Sec),c.secs[i]? = some s→secOk c i s∧∀ (k : Nat) (o : Sec),k ≠ i→c.secs[k]? = some o→meetB s o = false)):=hid (fun h=>by
    have h2:=(h i _ hs.out).1
    by_cases g1 : 0≤sfr
    ·rw [decide_eq_true g1] at rF
     have g2 : ¬ sfr < sto:=by simpa using rF
     exact g2 h2.2.2.2.2
    ·exact sec_no1 (insAt_n2 hx.out (by unfold isIn;rw [decide_eq_false g1];rfl)) h2)
   obtain ⟨c0,c1,c2,c3,c4⟩:=five0 KC2.out
   clear E hT hsc rF KC2 hI
   go_wp2_with fail
   go_quiet ((first | (go_at_call 20;with_reducible exact Calls.quiet_of_same (N1.out _)) | (go_at_call 20;with_reducible exact Calls.quiet_of_same (N2.out _))))
   go_wp2_with fail
   exact hret.out _ _ rfl rfl (below_drewN BX.out nq) G.out
  have N2:=hid (fun W=>by have h:=inZ_any sfr sto W;rw [rF] at h;exact h)
  have g1 : 0≤sfr∧sfr < sto:=by simpa using rF
  cases rP : isIn sto x.code.length
  ·have N3:=hid (fun W=>by have h:=in_any sto (x.code.length : Int) x.code.length rfl W;rw [rP] at h;exact h)
   have G : Hid (¬ (∀ (i : Nat) (s : Sec),c.secs[i]? = some s→secOk c i s∧∀ (k : Nat) (o : Sec),k ≠ i→c.secs[k]? = some o→meetB s o = false)):=hid (fun h=>sec_no2 (insAt_n2 hx.out rP) (h i _ hs.out).1)
   obtain ⟨c0,c1,c2,c3,c4⟩:=five0 KC2.out
   clear E hT hsc rP rF g1 KC2 hI
   go_wp2_with fail
   go_quiet ((first | (go_at_call 20;with_reducible exact Calls.quiet_of_same (N1.out _)) | (go_at_call 20;with_reducible exact Calls.quiet_of_same (N2.out _)) | (go_at_call 20;with_reducible exact Calls.quiet_of_same (N3.out _))))
   go_wp2_with fail
   exact hret.out _ _ rfl rfl (below_drewN BX.out nq) G.out
  have N3:=fun W=>in_any sto (x.code.length : Int) x.code.length rfl W
  rw [rP] at N3
  obtain ⟨ko,rfl,hko⟩:=isIn_nat rP
  obtain ⟨kf,rfl⟩:=Int.eq_ofNat_of_zero_le g1.1
  have hkf : kf < x.code.length:=by omega
  replace N3:=hid N3
  obtain ⟨yf,bi,oi,i7,q7,i8,q8,hyf,ha,hbi,e7,e8,⟨d0,d1,d2,d3,d4,d5,d6,d7⟩,yok⟩:=hI.out kf hkf
  cases ha
  obtain ⟨yo,bj,oj,i9,q9,i10,q10,hyo,ha,hbj,e9,e10,⟨v0,v1,v2,v3,v4,v5,v6,v7⟩,yok2⟩:=hI.out ko hko
  cases ha
  have kf2 : (kf : Int) < (x.code.length : Int):=by omega
  have ko2 : (ko : Int) < (x.code.length : Int):=by omega
  have g2 : (kf : Int) < (ko : Int):=g1.2
  have SO : Hid (secOk c i ⟨(kt : Int),(kf : Int),(ko : Int)⟩↔(yf.op = 15∧yf.n = i∧yo.op = 16∧yo.n = i)):=hid (by
   unfold secOk;simp only
   rw [insAt_i0 hx.out hyf,insAt_i0 hx.out hyo]
   exact ⟨fun h=>⟨h.1,h.2.1,h.2.2.1,h.2.2.2.1⟩,fun h=>⟨h.1,h.2.1,h.2.2.1,h.2.2.2,g2⟩⟩)
  clear e7 e8 e9 e10 yok yok2 rP rF g1 hI d1 d2 d3 d5 d6 d7 v1 v2 v3 v5 v6 v7 t0 t2 hyf hyo
  rw [← B.out.cell hbi] at d0 d4 v0 v4
  have lbi:=Nat.lt_of_lt_of_le hbi B.out.size
  have hY:=fun n=>below_drewN ((Below.refl wr.heap.size wr).alloc (Nat.le_refl _) (.cells #[.int .i64 (kt : Int),.int .i64 (kf : Int),.int .i64 (ko : Int)] 63)) n
  have KS:=fun n=>(BoxAt.new wr #[.int .i64 (kt : Int),.int .i64 (kf : Int),.int .i64 (ko : Int)] 63).kept (below_drewN (Below.refl _ _) n)
  replace hY:=hid hY
  replace KS:=hid KS
  obtain ⟨c0,c1,c2,c3,c4⟩:=five0 KC2.out
  go_wp2_with fail
  go_quiet ((first | (go_at_call 20;with_reducible exact Calls.quiet_of_same (N1.out _)) | (go_at_call 20;with_reducible exact Calls.quiet_of_same (N2.out _)) | (go_at_call 20;with_reducible exact Calls.quiet_of_same (N3.out _))))
  clear N1 N2 N3
  replace hY:=hid (hY.out nq)
  replace KS:=hid (KS.out nq)
  have B5:=hid (below_drewN BX.out nq)
  have KC5:=hid (KC2.out.kept hY.out)
  clear c0 c1 c2 c3 c4 u0 u1 u2
  rw [← hY.out.cell lbt] at t1
  rw [← hY.out.cell lbi] at d0 d4 v0 v4
  clear hY BX B KC2
  generalize ((wr.alloc (.cells #[.int .i64 (kt : Int),.int .i64 (kf : Int),.int .i64 (ko : Int)] 63)).drewN nq) = wg at *
  have c2:=KC5.out.2 2 _ rfl
  obtain ⟨s0,s1,s2⟩:=three0 KS.out
  cases z1 : (yf.op != 15)
  rotate_left
  ·have G : Hid (¬ (∀ (i : Nat) (s : Sec),c.secs[i]? = some s→secOk c i s∧∀ (k : Nat) (o : Sec),k ≠ i→c.secs[k]? = some o→meetB s o = false)):=hid (fun h=>by have h2:=(SO.out.1 (h i _ hs.out).1).1;rw [h2] at z1;simp at z1)
   clear E SO hT hsc KC5
   go_wp2_with fail
   exact hret.out _ _ rfl rfl B5.out G.out
  cases z2 : (yf.n != (i : Int))
  rotate_left
  ·have G : Hid (¬ (∀ (i : Nat) (s : Sec),c.secs[i]? = some s→secOk c i s∧∀ (k : Nat) (o : Sec),k ≠ i→c.secs[k]? = some o→meetB s o = false)):=hid (fun h=>by have h2:=(SO.out.1 (h i _ hs.out).1).2.1;rw [h2] at z2;simp at z2)
   clear E SO hT hsc KC5
   go_wp2_with fail
   exact hret.out _ _ rfl rfl B5.out G.out
  cases z3 : (yo.op != 16)
  rotate_left
  ·have G : Hid (¬ (∀ (i : Nat) (s : Sec),c.secs[i]? = some s→secOk c i s∧∀ (k : Nat) (o : Sec),k ≠ i→c.secs[k]? = some o→meetB s o = false)):=hid (fun h=>by have h2:=(SO.out.1 (h i _ hs.out).1).2.2.1;rw [h2] at z3;simp at z3)
   clear E SO hT hsc KC5
   go_wp2_with fail
   exact hret.out _ _ rfl rfl B5.out G.out
  cases z4 : (yo.n != (i : Int))
  rotate_left
  ·have G : Hid (¬ (∀ (i : Nat) (s : Sec),c.secs[i]? = some s→secOk c i s∧∀ (k : Nat) (o : Sec),k ≠ i→c.secs[k]? = some o→meetB s o = false)):=hid (fun h=>by have h2:=(SO.out.1 (h i _ hs.out).1).2.2.2;rw [h2] at z4;simp at z4)
   clear E SO hT hsc KC5
   go_wp2_with fail
   exact hret.out _ _ rfl rfl B5.out G.out
  have SI : Hid (secOk c i ⟨(kt : Int),(kf : Int),(ko : Int)⟩):=hid (SO.out.2 ⟨by simpa using z1,by simpa using z2,by simpa using z3,by simpa using z4⟩)
  clear SO
  have c4:=KC5.out.2 4 _ rfl
  go_wp2_with fail
  clear c2 c4 t1 d0 d4 v0 v4 s0 s1 s2 z1 z2 z3 z4
  have B9:=hid (Below.refl wg.heap.size wg)
  go_loopw [216] (fun t wr'=>∃ k : Nat,t = .int .i64 k∧k≤c.secs.length∧Hid (∀ (m : Nat) (o : Sec),m < k→m ≠ i→c.secs[m]? = some o→meetB ⟨(kt : Int),(kf : Int),(ko : Int)⟩ o = false)∧Hid (Below wg.heap.size wg wr')) (fun t _=>c.secs.length - (intOf t).toNat)
  case atStart=>exact ⟨0,rfl,by omega,hid (fun i x h=>by omega),B9⟩
  case round =>
   clear B9
   obtain ⟨k,rfl,hk,E3,B9⟩:=hrel
   by_cases hkn : k < c.secs.length
   rotate_left
   ·have R3 : Hid (∀ (m : Nat) (o : Sec),m ≠ i→c.secs[m]? = some o→meetB ⟨(kt : Int),(kf : Int),(ko : Int)⟩ o = false):=hid (fun m y hm hy=>E3.out m y (by have:=(List.getElem?_eq_some_iff.1 hy).1;omega) hm hy)
    clear E3 hT hsc KS KC5
    go_wp2_with fail
    go_roundw
    case rel =>
     refine ⟨i + 1,by go_num,by omega,hid (fun m z hm hz=>?_),bover B5.out B9.out⟩
     by_cases hmk : m < i
     ·exact E.out m z hmk hz
     ·obtain rfl : m = i:=by omega
      rw [hs.out] at hz
      cases hz
      exact ⟨SI.out,fun k o hk ho=>R3.out k o hk ho⟩
    case measure=>simp [intOf];omega
   obtain ⟨o,ho⟩ : ∃ q,c.secs[k]? = some q:=⟨c.secs[k],by simp [hkn]⟩
   obtain ⟨b2,off2,cp2,es2,hb2,y0,y1,y2⟩:=sec_cells hsc.out ho
   cases es2
   obtain ⟨oth,ofr,oto⟩:=o
   simp only at y0 y1 y2
   have BW:=hid (bover B5.out B9.out)
   rw [← BW.out.cell hb2] at y0 y1 y2
   have KS2:=hid (KS.out.kept B9.out)
   have lks : _ < _:=KS2.out.1
   obtain ⟨s0,s1,s2⟩:=three0 KS2.out
   have B10:=hid (B9.out.alloc B9.out.size (.cells #[.int .i64 oth,.int .i64 ofr,.int .i64 oto] 63))
   replace ho:=hid ho
   clear hT hsc KS2 KC5 B9 BW
   by_cases hki : k = i
   ·subst hki
    have w1 : ((k : Int) != (k : Int)) = false:=by simp
    go_wp2_with fail
    go_roundw
    case rel =>
     refine ⟨k + 1,by go_num,by omega,hid (fun m z hm hmi hz=>?_),B10⟩
     by_cases hmk : m < k
     ·exact E3.out m z hmk hmi hz
     ·exact absurd (show m = k by omega) hmi
    case measure=>simp [intOf];omega
   have w1 : ((k : Int) != (i : Int)) = true:=by rw [bne_iff_ne];omega
   cases w2 : (oth == (kt : Int))
   ·have M : Hid (meetB ⟨(kt : Int),(kf : Int),(ko : Int)⟩ ⟨oth,ofr,oto⟩ = false):=hid (by rw [meet_comm];unfold meetB;simp only;rw [w2];rfl)
    clear E
    go_wp2_with fail
    go_roundw
    case rel =>
     refine ⟨k + 1,by go_num,by omega,hid (fun m z hm hmi hz=>?_),B10⟩
     by_cases hmk : m < k
     ·exact E3.out m z hmk hmi hz
     ·obtain rfl : m = k:=by omega
      rw [ho.out] at hz
      cases hz
      exact M.out
    case measure=>simp [intOf];omega
   by_cases w3 : oto < (kf : Int)
   ·have M : Hid (meetB ⟨(kt : Int),(kf : Int),(ko : Int)⟩ ⟨oth,ofr,oto⟩ = false):=hid (by unfold meetB;simp only;rw [decide_eq_false (show ¬ (kf : Int)≤oto by omega)];simp)
    clear E
    go_wp2_with fail
    go_roundw
    case rel =>
     refine ⟨k + 1,by go_num,by omega,hid (fun m z hm hmi hz=>?_),B10⟩
     by_cases hmk : m < k
     ·exact E3.out m z hmk hmi hz
     ·obtain rfl : m = k:=by omega
      rw [ho.out] at hz
      cases hz
      exact M.out
    case measure=>simp [intOf];omega
   have w3' : (kf : Int)≤oto:=by omega
   by_cases w4 : (ko : Int) < ofr
   ·have M : Hid (meetB ⟨(kt : Int),(kf : Int),(ko : Int)⟩ ⟨oth,ofr,oto⟩ = false):=hid (by unfold meetB;simp only;rw [decide_eq_false (show ¬ ofr≤(ko : Int) by omega)];simp)
    clear E
    go_wp2_with fail
    go_roundw
    case rel =>
     refine ⟨k + 1,by go_num,by omega,hid (fun m z hm hmi hz=>?_),B10⟩
     by_cases hmk : m < k
     ·exact E3.out m z hmk hmi hz
     ·obtain rfl : m = k:=by omega
      rw [ho.out] at hz
      cases hz
      exact M.out
    case measure=>simp [intOf];omega
   have w4' : ofr≤(ko : Int):=by omega
   have G : Hid (¬ (∀ (i : Nat) (s : Sec),c.secs[i]? = some s→secOk c i s∧∀ (k : Nat) (o : Sec),k ≠ i→c.secs[k]? = some o→meetB s o = false)):=hid (fun h=>by
    have h2:=(h i _ hs.out).2 k _ hki ho.out
    rw [meet_comm] at h2
    unfold meetB at h2
    simp only at h2
    rw [w2,decide_eq_true w3',decide_eq_true w4'] at h2
    cases h2)
   clear E E3
   go_wp2_with fail
   exact hret.out _ _ rfl rfl (bover B5.out B10.out) G.out
end Go.Proofs.YtdpbapoahfggeaaDoor
