/- The contract of targetOf: to what an instruction brings something. -/
import Derived.Test.YtkdpcaoocmbbhaaDoorWt
import Derived.Test.YtkdpcaoocmbbhaaDoorM10
namespace Go.Proofs.YtkdpcaoocmbbhaaDoor
open Go.ChangeShapes Go.WideShapes Go.ChangeAt Go.RowKit Go.Deep
set_option linter.unusedVariables false
set_option linter.unusedSimpArgs false

def tgtL (c : Cd) (b : Bd) (x : Ins) : Loc:=if hasD x.op then slotOf b x else if x.op == 5 then globAt c x else if x.op == 6 then fieldAt c x else Loc.z
theorem tgtL_means (c : Cd) (b : Bd) (x : Ins) : meansL (tgtL c b x) = tgtM c b x:=by
 unfold tgtL tgtM
 split
 ·rfl
 ·split
  ·rfl
  ·split
   ·rfl
   ·rfl

theorem below4 (w : World) (o1 o2 o3 o4 : Obj) : Below w.heap.size w ((((w.alloc o1).alloc o2).alloc o3).alloc o4):=(below3 w o1 o2 o3).alloc (by simp;omega) _

/-- A struct goes into a box, in a plain region. -/
theorem wl_store_box {ops : Array Oper} {rest : List Oper} {op : Oper} {a : Act} {w : World} {Q : Exit→Act→World→Prop} (ty : TypeId) (x y : Operand) (ho : op.op = .store ty x y) (hw : Region.wanted op (yielded ops a.tmps) = true)
  (b : Nat) (hx : a.eval x = .pointer (some ⟨b,0,none⟩)) (cs : List Value) (hy : a.eval y = .agg cs.toArray) (hi : (Tryd.prog.info? ty).map (·.size) = some cs.length) (h1 : ∀ v ∈ cs,v.oneCell' = true)
  (old : List Value) (t : TypeId) (hv : VarAt w b old t) (hl : old.length = cs.length) (hs : splice old 0 cs = cs) (h : ∀ w',VarAt w' b cs t→Turned b w w'→wpList Tryd.prog ops Q rest (a.put op.dst undef) w') : wpList Tryd.prog ops Q (op :: rest) a w :=
 wpList_step fun K hK=>step_store ty x y ho hw b hx cs hy hi h1 old t hv hl hs fun w' h2 h3=>hK _ _ (h w' h2 h3)

/-- The boxes of targetOf. -/
structure TgW (w : World) (cc bc xc : List Value) (W : World) : Prop where
 b0 : VarAt W w.heap.size cc 28
 b1 : VarAt W (w.heap.size + 1) bc 40
 b2 : VarAt W (w.heap.size + 2) xc 50
 b3 : VarAt W (w.heap.size + 3) [.int .i64 0,.int .i64 0,.bool false] 56
 bel : Below w.heap.size w W
theorem TgW.start (w : World) (cc bc xc : List Value) : TgW w cc bc xc ((((w.alloc (.cells cc.toArray 28)).alloc (.cells bc.toArray 40)).alloc (.cells xc.toArray 50)).alloc (.cells #[.int .i64 0,.int .i64 0,.bool false] 56)):=by
 have h1:=(((VarAt.new (w.alloc (.cells cc.toArray 28)) bc 40).past (.cells xc.toArray 50)).past (.cells #[.int .i64 0,.int .i64 0,.bool false] 56))
 have h2:=((VarAt.new ((w.alloc (.cells cc.toArray 28)).alloc (.cells bc.toArray 40)) xc 50).past (.cells #[.int .i64 0,.int .i64 0,.bool false] 56))
 have h3:=(VarAt.new (((w.alloc (.cells cc.toArray 28)).alloc (.cells bc.toArray 40)).alloc (.cells xc.toArray 50)) [.int .i64 0,.int .i64 0,.bool false] 56)
 simp only [World.size_alloc] at h1 h2 h3
 exact ⟨(((VarAt.new w cc 28).past _).past _).past _,h1,h2,h3,below4 _ _ _ _ _⟩
theorem TgW.kept {w W W' : World} {cc bc xc : List Value} (h : TgW w cc bc xc W) (k : Below W.heap.size W W') : TgW w cc bc xc W':=⟨h.b0.kept k,h.b1.kept k,h.b2.kept k,h.b3.kept k,h.bel.trans (k.mono h.bel.size)⟩

theorem loc_ones (l : Loc) : ∀ v ∈ l.cells,v.oneCell' = true:=by
 intro v hv
 simp only [Loc.cells,List.mem_cons,List.not_mem_nil,or_false] at hv
 rcases hv with rfl | rfl | rfl <;> rfl
theorem size56 : (Tryd.prog.info? 56).map (·.size) = some 3:=by kernel_rfl
theorem TgW.done {w W W' : World} {cc bc xc : List Value} (h : TgW w cc bc xc W) (k : Turned (w.heap.size + 3) W W') : Below w.heap.size w W':=k.below h.bel (by omega)
theorem tgt_keep {w W W2 : World} {rb ro r gb go n : Nat} {v1 v2 v3 vr v4 v5 v6 : Value} (ht : Turned (w.heap.size + 3) W W2) (hlt : gb < w.heap.size) (rlt : rb < w.heap.size)
  (d1 : W.cell? ⟨w.heap.size,0,none⟩ = some v1) (d2 : W.cell? ⟨w.heap.size + 2,3,none⟩ = some v2) (d3 : W.cell? ⟨w.heap.size + 2,4,none⟩ = some v3) (cr : W.cell? ⟨rb,ro + r,none⟩ = some vr) (c0 : W.cell? ⟨gb,go + n * 3,none⟩ = some v4) (c1 : W.cell? ⟨gb,go + n * 3 + 1,none⟩ = some v5) (c2 : W.cell? ⟨gb,go + n * 3 + 2,none⟩ = some v6) :
  W2.cell? ⟨w.heap.size,0,none⟩ = some v1∧W2.cell? ⟨w.heap.size + 2,3,none⟩ = some v2∧W2.cell? ⟨w.heap.size + 2,4,none⟩ = some v3∧W2.cell? ⟨rb,ro + r,none⟩ = some vr∧W2.cell? ⟨gb,go + n * 3,none⟩ = some v4∧W2.cell? ⟨gb,go + n * 3 + 1,none⟩ = some v5∧W2.cell? ⟨gb,go + n * 3 + 2,none⟩ = some v6:=by
 have k : ∀ b o v,b ≠ w.heap.size + 3→W.cell? ⟨b,o,none⟩ = some v→W2.cell? ⟨b,o,none⟩ = some v:=fun b o v hb h=>(World.cell?_of_block (ht.block b hb)).trans h
 exact ⟨k _ _ _ (by omega) d1,k _ _ _ (by omega) d2,k _ _ _ (by omega) d3,k _ _ _ (by omega) cr,k _ _ _ (by omega) c0,k _ _ _ (by omega) c1,k _ _ _ (by omega) c2⟩
/-- A local, read of a row. -/
theorem locs_at {w : World} {v : Value} {l : List Loc} (h : Locs w v l) : ∃ a cap,v = .slice a l.length cap∧∀ n x,l[n]? = some x→∃ b off,a = some ⟨b,off,none⟩∧b < w.heap.size∧n < l.length∧w.cell? ⟨b,off + n * 3,none⟩ = some (.int .i64 x.kind)∧w.cell? ⟨b,off + n * 3 + 1,none⟩ = some (.int .i64 x.rc)∧w.cell? ⟨b,off + n * 3 + 2,none⟩ = some (.bool x.once):=by
 obtain ⟨a,cap,h1,hr⟩:=RowOf.at h
 refine ⟨a,cap,h1,fun n x hx=>?_⟩
 have hn:=(List.getElem?_eq_some_iff.1 hx).1
 obtain ⟨y,b,off,hy,e,hlt,hra,_⟩:=hr n hn
 rw [hx] at hy;cases hy
 exact ⟨b,off,e,hlt,hn,hra 0 _ rfl,hra 1 _ rfl,hra 2 _ rfl⟩

set_option maxRecDepth 100000 in
set_option maxHeartbeats 1000000 in
theorem targetOf_any (c : Cd) (b : Bd) (x : Ins) (w : World) (hc : c.okW w) (hb : b.okW w) (hx : x.okW w) (F : InsF c b x) :
  Calls Tryd.prog 38 #[.agg c.cells.toArray,.agg b.cells.toArray,.agg x.cells.toArray] w fun e w'=>e = .returned (.agg (tgtL c b x).cells.toArray)∧Below w.heap.size w w':=by
 obtain ⟨a0,p0,a1,p1,a2,p2,a3,p3,a4,p4,e0,e1,e2,e3,e4⟩:=cd_open hc
 obtain ⟨al,ps,es⟩:=hb.2.1.form
 obtain ⟨ac,pc,ec⟩:=hb.2.2.form
 obtain ⟨ai,pi,ei⟩:=hx.2.1.form
 obtain ⟨ax,px,ex⟩:=hx.2.2.form
 have WR:=hid (fun W=>writes_any x.op x.dst x.src x.rc x.n x.to ai x.items.length pi ax x.index.length px W)
 simp only [Cd.cells,Bd.cells,Ins.cells]
 rw [e0,e1,e2,e3,e4,es,ec,ei,ex]
 cases hD : hasD x.op
 ·have hw : wrB x.op x.dst = -1:=by unfold wrB;rw [hD];rfl
  rw [hw] at WR
  by_cases h5 : x.op = 5
  ·obtain ⟨n,hn,hnl⟩:=F.g (.inr h5)
   obtain ⟨l,hl⟩ : ∃ l,c.globs[n]? = some l:=⟨c.globs[n],by simp [hnl]⟩
   obtain ⟨ga,gp,ge,hr⟩:=locs_at hc.2.1
   obtain ⟨gb,go,ga2,hlt,_,c0,c1,c2⟩:=hr n l hl
   rw [e1] at ge
   obtain ⟨rfl,-,rfl⟩:=Value.slice.inj ge
   subst ga2
   have hT : tgtL c b x = l:=by unfold tgtL globAt;rw [hD,h5,hn,Int.toNat_natCast];simp [List.getD,hl]
   rw [hT]
   rw [h5,hn] at WR ⊢
   have hnl' : (n : Int) < (c.globs.length : Int):=by omega
   clear hr e0 e1 e2 e3 e4 es ec ei ex hc hb hx F hD hw h5 hT hn hl ge
   have TS:=hid (TgW.start w [.slice a0 c.recs.length p0,.slice (some ⟨gb,go,none⟩) c.globs.length p1,.slice a2 c.threads.length p2,.slice a3 c.sites.length p3,.slice a4 c.secs.length p4] [.slice al b.slots.length ps,.slice ac b.code.length pc,.int .i64 b.most] [.int .i64 5,.int .i64 x.dst,.int .i64 x.src,.int .i64 x.rc,.int .i64 (n : Int),.int .i64 x.to,.slice ai x.items.length pi,.slice ax x.index.length px])
   go_enter Tryd.func38,Tryd.ntmps38
   go_wp2_with (first
    | (go_at_call 67;refine Calls.mono (WR.out _) ?_;rintro _ W1 ⟨rfl,hk⟩;replace TS:=hid (TS.out.kept hk);clear hk;rw [← TS.out.bel.cell hlt] at c0 c1 c2;have d1:=TS.out.b0.cell 1 (v:=.slice (some ⟨gb,go,none⟩) c.globs.length p1) rfl;have d2:=TS.out.b2.cell 0 (v:=.int .i64 5) rfl;have d3:=TS.out.b2.cell 4 (v:=.int .i64 (n : Int)) rfl)
    | (refine wl_store_box 56 _ _ rfl rfl (w.heap.size + 3) rfl l.cells rfl size56 (loc_ones l) _ _ TS.out.b3 rfl rfl ?_;intro W2 hv ht))
   try simp only [Act.put]
   refine bodyPost_ret (results_cell_row rfl _ _ (w.heap.size + 3) _ _ _ _ rfl hv Tryd.underlying56 rfl (by kernel_rfl)) rfl ?_
   exact ⟨rfl,TS.out.done ht⟩
  ·have h5' : (x.op == 5) = false:=by simpa using h5
   by_cases h6 : x.op = 6
   ·obtain ⟨r,n,hr,hrl,hn,hnl⟩:=F.f (.inr h6)
    obtain ⟨q,hq⟩ : ∃ q,c.recs[r]? = some q:=⟨c.recs[r],by simp [hrl]⟩
    have eq : c.recs.getD r Rl.z = q:=by simp [List.getD,hq]
    rw [eq] at hnl
    obtain ⟨l,hl⟩ : ∃ l,q.flds[n]? = some l:=⟨q.flds[n],by simp [hnl]⟩
    obtain ⟨ra,rp,re,hrr⟩:=RowOf.at hc.1
    obtain ⟨q',rb,ro,hq',ra2,rlt,hra,okq⟩:=hrr r hrl
    rw [hq] at hq';cases hq'
    rw [e0] at re
    obtain ⟨rfl,-,rfl⟩:=Value.slice.inj re
    subst ra2
    obtain ⟨ga,gp,ge,hgr⟩:=locs_at okq
    obtain ⟨gb,go,ga2,hlt,_,c0,c1,c2⟩:=hgr n l hl
    subst ga2
    have cr : w.cell? ⟨rb,ro + r,none⟩ = some (.slice (some ⟨gb,go,none⟩) q.flds.length gp):=by
     have : w.cell? ⟨rb,ro + r * 1,none⟩ = some q.fv:=hra 0 _ rfl
     rw [Nat.mul_one,ge] at this
     exact this
    have hT : tgtL c b x = l:=by unfold tgtL fieldAt;rw [hD,h6,hr,hn,Int.toNat_natCast,Int.toNat_natCast,eq];simp [List.getD,hl]
    rw [hT]
    rw [h6,hn,hr] at WR ⊢
    have hnl' : (n : Int) < (q.flds.length : Int):=by omega
    have hrl' : (r : Int) < (c.recs.length : Int):=by omega
    clear hrr hgr hra e0 e1 e2 e3 e4 es ec ei ex hc hb hx F hD hw h5 h5' hT hn hl ge re okq eq hq hr h6
    have TS:=hid (TgW.start w [.slice (some ⟨rb,ro,none⟩) c.recs.length p0,.slice a1 c.globs.length p1,.slice a2 c.threads.length p2,.slice a3 c.sites.length p3,.slice a4 c.secs.length p4] [.slice al b.slots.length ps,.slice ac b.code.length pc,.int .i64 b.most] [.int .i64 6,.int .i64 x.dst,.int .i64 x.src,.int .i64 (r : Int),.int .i64 (n : Int),.int .i64 x.to,.slice ai x.items.length pi,.slice ax x.index.length px])
    go_enter Tryd.func38,Tryd.ntmps38
    go_wp2_with (go_at_call 67;refine Calls.mono (WR.out _) ?_;rintro _ W1 ⟨rfl,hk⟩;replace TS:=hid (TS.out.kept hk);clear hk;have d0:=TS.out.b2.cell 0 (v:=.int .i64 6) rfl)
    have TSD:=hid (TS.out.kept ((Below.refl _ _).drew))
    rw [← TSD.out.bel.cell hlt] at c0 c1 c2
    rw [← TSD.out.bel.cell rlt] at cr
    have d1:=TSD.out.b0.cell 0 (v:=.slice (some ⟨rb,ro,none⟩) c.recs.length p0) rfl
    have d2:=TSD.out.b2.cell 3 (v:=.int .i64 (r : Int)) rfl
    have d3:=TSD.out.b2.cell 4 (v:=.int .i64 (n : Int)) rfl
    refine wp_region_held_drew (S:=fun (w' : World)=>w'.cell? ⟨w.heap.size,0,none⟩ = some (.slice (some ⟨rb,ro,none⟩) c.recs.length p0)∧w'.cell? ⟨w.heap.size + 2,3,none⟩ = some (.int .i64 (r : Int))∧w'.cell? ⟨w.heap.size + 2,4,none⟩ = some (.int .i64 (n : Int))∧w'.cell? ⟨rb,ro + r,none⟩ = some (.slice (some ⟨gb,go,none⟩) q.flds.length gp)∧w'.cell? ⟨gb,go + n * 3,none⟩ = some (.int .i64 l.kind)∧w'.cell? ⟨gb,go + n * 3 + 1,none⟩ = some (.int .i64 l.rc)∧w'.cell? ⟨gb,go + n * 3 + 2,none⟩ = some (.bool l.once)) (by kernel_rfl) (⟨d1,d2,d3,cr,c0,c1,c2⟩) (fun hHeld=>?_)
    refine wT 0 ⟨some 29,.fieldAddr 28 (.tmp 3) 0,0,"solver.go:45",#[],none⟩ hHeld ?_
    try simp only [Act.put,sA,sB,sC]
    refine wT 1 ⟨some 30,.load 22 (.tmp 29),22,"solver.go:45",#[⟨0,.data⟩],none⟩ hHeld ?_
    try simp only [Act.put,sA,sB,sC]
    refine wT 2 ⟨some 31,.fieldAddr 50 (.tmp 5) 3,0,"solver.go:45",#[],none⟩ hHeld ?_
    try simp only [Act.put,sA,sB,sC]
    refine wT 3 ⟨some 32,.load 3 (.tmp 31),3,"solver.go:45",#[⟨2,.data⟩],none⟩ hHeld ?_
    try simp only [Act.put,sA,sB,sC]
    refine wT 4 ⟨some 33,.indexAddr 22 (.tmp 30) (.tmp 32),0,"solver.go:45",#[⟨1,.data⟩,⟨3,.data⟩],none⟩ hHeld ?_
    try simp only [Act.put,sA,sB,sC]
    refine wT 5 ⟨some 34,.load 23 (.tmp 33),23,"solver.go:45",#[⟨4,.data⟩],none⟩ hHeld ?_
    try simp only [Act.put,sA,sB,sC]
    refine wT 6 ⟨some 35,.fieldAddr 50 (.tmp 5) 4,0,"solver.go:45",#[],none⟩ hHeld ?_
    try simp only [Act.put,sA,sB,sC]
    refine wT 7 ⟨some 36,.load 3 (.tmp 35),3,"solver.go:45",#[⟨6,.data⟩],none⟩ hHeld ?_
    try simp only [Act.put,sA,sB,sC]
    refine wT 8 ⟨some 37,.indexAddr 23 (.tmp 34) (.tmp 36),0,"solver.go:45",#[⟨5,.data⟩,⟨7,.data⟩],none⟩ hHeld ?_
    try simp only [Act.put,sA,sB,sC]
    refine wT 9 ⟨some 38,.load 56 (.tmp 37),56,"solver.go:45",#[⟨8,.data⟩],none⟩ hHeld ?_
    try simp only [Act.put,sA,sB,sC]
    refine wO 10 ⟨none,.store 56 (.tmp 6) (.tmp 38),0,"solver.go:45",#[⟨9,.data⟩,⟨0,.phase⟩,⟨1,.phase⟩,⟨2,.phase⟩,⟨3,.phase⟩,⟨4,.phase⟩,⟨5,.phase⟩,⟨6,.phase⟩,⟨7,.phase⟩,⟨8,.phase⟩,⟨9,.phase⟩],none⟩ (fun K' hK'=>?_)
    refine step_store 56 _ _ (by rfl) (by rfl) (w.heap.size + 3) (by rfl) l.cells (by rfl) size56 (loc_ones l) _ 56 TSD.out.b3 rfl rfl ?_
    intro W2 hv ht
    have hz:=hid (tgt_keep ht hlt rlt d1 d2 d3 cr c0 c1 c2)
    refine hK'.out _ _ hz.out (fun hHeld=>?_)
    clear hK' K'
    try simp only [Act.put,sA,sB,sC]
    refine wpAnyH_done (by kernel_rfl) ?_ _
    clear hHeld
    go_wp2_with fail
    try simp only [Act.put]
    refine bodyPost_ret (results_cell_row rfl _ _ (w.heap.size + 3) _ _ _ _ rfl hv Tryd.underlying56 rfl (by kernel_rfl)) rfl ?_
    exact ⟨rfl,TSD.out.done ht⟩
   ·have h6' : (x.op == 6) = false:=by simpa using h6
    have hT : tgtL c b x = Loc.z:=by unfold tgtL;rw [hD,h5',h6'];rfl
    rw [hT]
    clear e0 e1 e2 e3 e4 es ec ei ex hc hb hx F hD hw hT
    have TS:=hid (TgW.start w [.slice a0 c.recs.length p0,.slice a1 c.globs.length p1,.slice a2 c.threads.length p2,.slice a3 c.sites.length p3,.slice a4 c.secs.length p4] [.slice al b.slots.length ps,.slice ac b.code.length pc,.int .i64 b.most] [.int .i64 x.op,.int .i64 x.dst,.int .i64 x.src,.int .i64 x.rc,.int .i64 x.n,.int .i64 x.to,.slice ai x.items.length pi,.slice ax x.index.length px])
    go_enter Tryd.func38,Tryd.ntmps38
    go_wp2_with (first
     | (go_at_call 67;refine Calls.mono (WR.out _) ?_;rintro _ W1 ⟨rfl,hk⟩;replace TS:=hid (TS.out.kept hk);clear hk;have d2:=TS.out.b2.cell 0 (v:=.int .i64 x.op) rfl)
     | (refine wl_store_box 56 _ _ rfl rfl (w.heap.size + 3) rfl Loc.z.cells rfl size56 (loc_ones Loc.z) _ _ TS.out.b3 rfl rfl ?_;intro W2 hv ht))
    try simp only [Act.put]
    refine bodyPost_ret (results_cell_row rfl _ _ (w.heap.size + 3) _ _ _ _ rfl hv Tryd.underlying56 rfl (by kernel_rfl)) rfl ?_
    exact ⟨rfl,TS.out.done ht⟩
 ·obtain ⟨d,hd,hdl⟩:=F.d hD
  have hw : wrB x.op x.dst = (d : Int):=by unfold wrB;rw [hD,hd];rfl
  rw [hw] at WR
  obtain ⟨l,hl⟩ : ∃ l,b.slots[d]? = some l:=⟨b.slots[d],by simp [hdl]⟩
  obtain ⟨ga,gp,ge,hr⟩:=locs_at hb.2.1
  obtain ⟨gb,go,ga2,hlt,_,c0,c1,c2⟩:=hr d l hl
  rw [es] at ge
  obtain ⟨rfl,-,rfl⟩:=Value.slice.inj ge
  subst ga2
  have hT : tgtL c b x = l:=by unfold tgtL slotOf;rw [hD,hd,Int.toNat_natCast];simp [List.getD,hl]
  rw [hT]
  have hdl' : (d : Int) < (b.slots.length : Int):=by omega
  replace hd:=hid hd
  clear hr e0 e1 e2 e3 e4 es ec ei ex hc hb hx F hD hw hT hl ge
  have TS:=hid (TgW.start w [.slice a0 c.recs.length p0,.slice a1 c.globs.length p1,.slice a2 c.threads.length p2,.slice a3 c.sites.length p3,.slice a4 c.secs.length p4] [.slice (some ⟨gb,go,none⟩) b.slots.length ps,.slice ac b.code.length pc,.int .i64 b.most] [.int .i64 x.op,.int .i64 x.dst,.int .i64 x.src,.int .i64 x.rc,.int .i64 x.n,.int .i64 x.to,.slice ai x.items.length pi,.slice ax x.index.length px])
  go_enter Tryd.func38,Tryd.ntmps38
  go_wp2_with (first
   | (go_at_call 67;refine Calls.mono (WR.out _) ?_;rintro _ W1 ⟨rfl,hk⟩;replace TS:=hid (TS.out.kept hk);clear hk;rw [← TS.out.bel.cell hlt] at c0 c1 c2;have d1:=TS.out.b1.cell 0 (v:=.slice (some ⟨gb,go,none⟩) b.slots.length ps) rfl)
   | (refine wl_store_box 56 _ _ rfl rfl (w.heap.size + 3) rfl l.cells rfl size56 (loc_ones l) _ _ TS.out.b3 rfl rfl ?_;intro W2 hv ht))
  try simp only [Act.put]
  refine bodyPost_ret (results_cell_row rfl _ _ (w.heap.size + 3) _ _ _ _ rfl hv Tryd.underlying56 rfl (by kernel_rfl)) rfl ?_
  exact ⟨rfl,TS.out.done ht⟩
end Go.Proofs.YtkdpcaoocmbbhaaDoor
