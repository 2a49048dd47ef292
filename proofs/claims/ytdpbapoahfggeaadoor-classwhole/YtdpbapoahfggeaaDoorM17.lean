/- St, Em -/
import Derived.Test.YtdpbapoahfggeaaDoorWt
import Derived.Test.YtdpbapoahfggeaaDoorEmc
import Derived.Test.YtdpbapoahfggeaaDoorM16
/- The contract of stepsOf: the instructions that bring something, in order. -/
namespace Go.Proofs.YtdpbapoahfggeaaDoor
open Go.ChangeShapes Go.WideShapes Go.ChangeAt Go.RowKit Go.Deep
set_option linter.unusedVariables false
set_option linter.unusedSimpArgs false

theorem step_append_rowof {w : World} {ops : Array Oper} {o : Oper} {a : Act} {K : Act→World→Prop} {Q : Exit→Act→World→Prop} {E : Prop} (hgd : o.guard = none) (s x : Operand) (t : TypeId)
  (ho : o.op = .call ⟨.builtin .append,#[s,x],#[t,t]⟩)
  (base : Nat) (e : TypeId) (z : Value) (size bytes : Nat) (ht : Tryd.prog.underlying t = some (.slice e)) (hinf : (Tryd.prog.info? e).map (fun i=>(i.zero,i.size,i.bytes)) = some (some z,size,bytes)) (hzs : z.cells.size = size) (hsz : 0 < size)
  (v : Value) (hs : a.eval s = v) (n : Nat) (xs : List Value) (hown : w.ownsRow base e size v n xs) (u : Value) (hx : a.eval x = u) {α : Type} {cells : α→List Value} {ok : World→α→Prop} (hcs : ∀ x,(cells x).length = size) (l : List α) (hu : RowOf cells size ok w u l) (h1 : ∀ x ∈ l.flatMap cells,x.oneCell' = true)
  (h63 : n + l.length≤2000000) (hbytes : bytes≤1000) (hbase : base≤w.heap.size)
  (h : ∀ v' w',w'.ownsRow base e size v' (n + l.length) (xs ++ l.flatMap cells)→w.grownBy w' v.ownBlock→(v'.ownBlock = v.ownBlock∨v'.ownBlock = some w.heap.size)→K (a.put o.dst v') w') :
  if Region.wanted o (yielded ops a.tmps) = true then Oper.wp Tryd.prog o a w K Q else E:=by
 have hw : Region.wanted o (yielded ops a.tmps) = true:=by simp [Region.wanted,hgd]
 rw [if_pos hw]
 exact wp_append_row s x t ho base e z size bytes ht hinf hzs hsz v hs n xs hown u hx hcs l hu h1 h63 hbytes hbase h

/-- A step that was laid. -/
def StpOk (lo : Nat) (c : Cd) (W : World) (s : Stp) : Prop:=∃ (t : Bd) (j : Nat),c.threads[s.i]? = some t∧t.code[j]? = some s.x∧tgtM c t s.x = true∧s.l = usesN s.x.items∧NumsM W lo W.heap.size s.v s.l
def AllS (lo : Nat) (c : Cd) (W : World) (l : List Stp) : Prop:=∀ s ∈ l,StpOk lo c W s
theorem AllS.touch {T : Nat→Prop} {lo : Nat} {c : Cd} {W W' : World} {l : List Stp} (h : AllS lo c W l) (k : Touch T W W') (hT : ∀ b,lo≤b→b < W.heap.size→¬ T b) : AllS lo c W' l:=fun s hs=>by
 obtain ⟨t,j,h1,h2,h3,h4,h5⟩:=h s hs
 exact ⟨t,j,h1,h2,h3,h4,(h5.touch k hT).mono k.size⟩
theorem AllS.kept {lo : Nat} {c : Cd} {W W' : World} {l : List Stp} (h : AllS lo c W l) (k : Below W.heap.size W W') : AllS lo c W' l:=h.touch (T:=fun _=>False) (Touch.of_below k) (fun _ _ _ q=>q)
/-- All steps ahead of a place are there. -/
def Got (c : Cd) (l : List Stp) (i j : Nat) : Prop:=∀ (i' : Nat) (t' : Bd) (j' : Nat) (x' : Ins),c.threads[i']? = some t'→t'.code[j']? = some x'→(i' < i∨(i' = i∧j' < j))→tgtM c t' x' = true→∃ s ∈ l,s.i = i'∧s.x = x'
theorem Got.skip {c : Cd} {l : List Stp} {i j : Nat} {t : Bd} {x : Ins} (h : Got c l i j) (ht : c.threads[i]? = some t) (hx : t.code[j]? = some x) (hm : tgtM c t x = false) : Got c l i (j + 1):=fun i' t' j' x' h1 h2 h3 h4=>by
 by_cases e : i' = i∧j' = j
 ·obtain ⟨rfl,rfl⟩:=e
  rw [ht] at h1;cases h1
  rw [hx] at h2;cases h2
  rw [hm] at h4;cases h4
 ·exact h i' t' j' x' h1 h2 (by omega) h4
theorem Got.more {c : Cd} {l : List Stp} {i j : Nat} {t : Bd} {x : Ins} (h : Got c l i j) (ht : c.threads[i]? = some t) (hx : t.code[j]? = some x) (s : Stp) (h1 : s.i = i) (h2 : s.x = x) : Got c (l ++ [s]) i (j + 1):=fun i' t' j' x' g1 g2 g3 g4=>by
 by_cases e : i' = i∧j' = j
 ·obtain ⟨rfl,rfl⟩:=e
  rw [ht] at g1;cases g1
  rw [hx] at g2;cases g2
  exact ⟨s,by simp,h1,h2⟩
 ·obtain ⟨s',a,b⟩:=h i' t' j' x' g1 g2 (by omega) g4
  exact ⟨s',List.mem_append_left _ a,b⟩
theorem Got.next {c : Cd} {l : List Stp} {i : Nat} {t : Bd} (h : Got c l i t.code.length) (ht : c.threads[i]? = some t) : Got c l (i + 1) 0:=fun i' t' j' x' g1 g2 g3 g4=>by
 refine h i' t' j' x' g1 g2 ?_ g4
 by_cases e : i' = i
 ·subst e
  rw [ht] at g1;cases g1
  exact .inr ⟨rfl,(List.getElem?_eq_some_iff.1 g2).1⟩
 ·exact .inl (by omega)

def zStp : Value:=.agg #[.int .i64 0,.int .i64 0,.int .i64 0,.int .i64 0,.int .i64 0,.int .i64 0,.slice none 0 0,.slice none 0 0,.int .i64 0,.slice none 0 0]
theorem info64 : (Tryd.prog.info? 73).map (fun i=>(i.zero,i.size,i.bytes)) = some (some zStp,10,128):=by kernel_rfl
theorem stp_ones {s : Stp} (h1 : s.x.iv.oneCell' = true) (h2 : s.x.xv.oneCell' = true) (h3 : s.v.oneCell' = true) : ∀ v ∈ s.cells,v.oneCell' = true:=by
 intro v hv
 simp only [Stp.cells,List.mem_cons,List.not_mem_nil,or_false] at hv
 rcases hv with rfl | rfl | rfl | rfl | rfl | rfl | rfl | rfl | rfl | rfl
 all_goals first | rfl | exact h1 | exact h2 | exact h3
theorem cells8 {W : World} {b : Nat} {a0 a1 a2 a3 a4 a5 a6 a7 : Value} (h : VarAt W b [a0,a1,a2,a3,a4,a5,a6,a7] 58) : W.cell? ⟨b,0,none⟩ = some a0∧W.cell? ⟨b,1,none⟩ = some a1∧W.cell? ⟨b,2,none⟩ = some a2∧W.cell? ⟨b,3,none⟩ = some a3∧W.cell? ⟨b,4,none⟩ = some a4∧W.cell? ⟨b,5,none⟩ = some a5∧W.cell? ⟨b,6,none⟩ = some a6∧W.cell? ⟨b,7,none⟩ = some a7 :=
 ⟨h.cell 0 rfl,h.cell 1 rfl,h.cell 2 rfl,h.cell 3 rfl,h.cell 4 rfl,h.cell 5 rfl,h.cell 6 rfl,h.cell 7 rfl⟩
theorem field56 (a b : Int) (q : Bool) (w : World) : (Instr.field 60 (.agg #[.int .i64 a,.int .i64 b,.bool q]) 0).run Tryd.prog w = .ok (.int .i64 a) w:=by kernel_rfl
theorem cells5 {W : World} {b : Nat} {a0 a1 a2 a3 a4 : Value} (h : VarAt W b [a0,a1,a2,a3,a4] 41) : W.cell? ⟨b,0,none⟩ = some a0∧W.cell? ⟨b,1,none⟩ = some a1∧W.cell? ⟨b,2,none⟩ = some a2∧W.cell? ⟨b,3,none⟩ = some a3∧W.cell? ⟨b,4,none⟩ = some a4 :=
 ⟨h.cell 0 rfl,h.cell 1 rfl,h.cell 2 rfl,h.cell 3 rfl,h.cell 4 rfl⟩
theorem cells3w {W : World} {b : Nat} {a0 a1 a2 : Value} (h : VarAt W b [a0,a1,a2] 55) : W.cell? ⟨b,0,none⟩ = some a0∧W.cell? ⟨b,1,none⟩ = some a1∧W.cell? ⟨b,2,none⟩ = some a2 :=
 ⟨h.cell 0 rfl,h.cell 1 rfl,h.cell 2 rfl⟩
/-- The steps' numbers lie beside the row of steps. -/
def Apart (W : World) (row : Value) (l : List Stp) : Prop:=∀ s ∈ l,∀ q,s.v.ownBlock = some q→q < W.heap.size∧row.ownBlock ≠ some q
theorem Apart.size {W W' : World} {row : Value} {l : List Stp} (h : Apart W row l) (k : W.heap.size≤W'.heap.size) : Apart W' row l:=fun s hs q hq=>⟨Nat.lt_of_lt_of_le (h s hs q hq).1 k,(h s hs q hq).2⟩
theorem NumsM.touchV {T : Nat→Prop} {w w' : World} {lo hi : Nat} {v : Value} {l : List Nat} (h : NumsM w lo hi v l) (k : Touch T w w') (hT : ∀ b,v.ownBlock = some b→¬ T b) : NumsM w' lo hi v l:=by
 obtain ⟨a,c,rfl,h⟩:=h
 refine ⟨a,c,rfl,fun q hq=>?_⟩
 obtain ⟨b,rfl,h2,h2',h3,h4⟩:=h q hq
 exact ⟨b,rfl,h2,h2',Nat.lt_of_lt_of_le h3 k.size,by rw [World.cell?_of_block (k.block b h3 (hT b (by simp [Value.ownBlock])))];exact h4⟩
theorem AllS.apart {lo : Nat} {c : Cd} {W W' : World} {row : Value} {l : List Stp} (h : AllS lo c W l) (k : Touch (fun b=>row.ownBlock = some b) W W') (ha : Apart W row l) : AllS lo c W' l:=fun s hs=>by
 obtain ⟨t,j,h1,h2,h3,h4,h5⟩:=h s hs
 exact ⟨t,j,h1,h2,h3,h4,(h5.touchV k (fun b hb=>(ha s hs b hb).2)).mono k.size⟩
theorem uses_ok {c : Cd} {t : Bd} {x : Ins} {w : World} (F : InsF c t x) (hx : x.okW w) (hs : t.slots.length≤64) : x.items.length≤1000∧∀ y ∈ x.items,(y.op == 2) = true→0≤y.n∧y.n < 1000:=by
 have hok : ∀ y ∈ x.items,0≤y.n:=fun y hy=>by
  obtain ⟨k,hk,rfl⟩:=List.getElem_of_mem hy
  obtain ⟨a,cap,_,hr⟩:=RowOf.at hx.2.1
  obtain ⟨z,b,off,hz,_,_,_,ok⟩:=hr k hk
  rw [List.getElem?_eq_getElem hk] at hz
  cases hz
  exact ok.2.2.2.2.1
 cases hI : hasI x.op with
 | false=>rw [F.no hI];exact ⟨by simp,fun y hy=>by cases hy⟩
 | true =>
  obtain ⟨g1,g2⟩:=good_can (F.it hI)
  exact ⟨by omega,fun y hy ho=>⟨hok y hy,by have:=can_slot (g2 y hy) ho;omega⟩⟩
theorem kinds_of (l : Loc) : meansL l = (l.kind == 4 || l.kind == 3):=by
 unfold meansL
 cases l.kind == 3 <;> cases l.kind == 4 <;> rfl

theorem nb_more {n4 k : Nat} {row v5 : Value} (h : ∀ q,row.ownBlock = some q→q ≠ k) (h5 : v5.ownBlock = row.ownBlock∨v5.ownBlock = some n4) (hk : k < n4) : ∀ q,v5.ownBlock = some q→q ≠ k:=by
 intro q hq
 rcases h5 with e | e
 ·exact h q (e ▸ hq)
 ·rw [e] at hq;cases hq;omega
theorem apart_more {lo : Nat} {W4 W5 : World} {row v v5 : Value} {x : Ins} {i : Nat} {us : List Nat} {l : List Stp} (h : Apart W4 row l) (hr : ∀ q,v.ownBlock = some q→q < W4.heap.size) (hr2 : ∀ q,row.ownBlock = some q→q < lo) (hlo : lo≤W4.heap.size) (hv : ∀ q,v.ownBlock = some q→lo≤q) (hs : W4.heap.size≤W5.heap.size) (h5 : v5.ownBlock = row.ownBlock∨v5.ownBlock = some W4.heap.size) : Apart W5 v5 (l ++ [⟨x,i,us,v⟩]):=by
 intro s hm q hq
 rcases List.mem_append.1 hm with hm | hm
 ·obtain ⟨a,b⟩:=h s hm q hq
  refine ⟨by omega,?_⟩
  rcases h5 with e | e
  ·rw [e];exact b
  ·rw [e];intro e2;cases e2;omega
 ·have : s = ⟨x,i,us,v⟩:=by simpa using hm
  subst this
  have a:=hr q hq
  have b:=hv q hq
  refine ⟨by omega,?_⟩
  rcases h5 with e | e
  ·rw [e];intro e2;have:=hr2 q e2;omega
  ·rw [e];intro e2;cases e2;omega
theorem all_more {lo lo' : Nat} {c : Cd} {W4 W5 : World} {row v : Value} {x : Ins} {i j : Nat} {t : Bd} {l : List Stp} (ht : c.threads[i]? = some t) (hx : t.code[j]? = some x) (hm : tgtM c t x = true) (h : AllS lo c W4 l) (hn : NumsM W4 lo' W4.heap.size v (usesN x.items)) (hlo : lo≤lo') (k : Touch (fun b=>row.ownBlock = some b) W4 W5) (ha : Apart W4 row l) (hv : ∀ q,v.ownBlock = some q→row.ownBlock ≠ some q) : AllS lo c W5 (l ++ [⟨x,i,usesN x.items,v⟩]):=by
 intro s hs
 rcases List.mem_append.1 hs with hs | hs
 ·exact h.apart k ha s hs
 ·have : s = ⟨x,i,usesN x.items,v⟩:=by simpa using hs
  subst this
  refine ⟨t,j,ht,hx,hm,rfl,?_⟩
  obtain ⟨a,cc,e,hh⟩:=(hn.touchV k hv).mono k.size
  exact ⟨a,cc,e,fun q hq=>by obtain ⟨b,h1,h2,h3⟩:=hh q hq;exact ⟨b,h1,by omega,h3⟩⟩

set_option maxRecDepth 100000 in
set_option maxHeartbeats 2000000 in
theorem steps_any (c : Cd) (w : World) (hc : c.okW w) (g : GoodP c) :
  Calls Tryd.prog 24 #[.agg c.cells.toArray] w fun e w'=>∃ u l,e = .returned u∧w'.ownsRow (w.heap.size + 1) 73 10 u l.length (l.flatMap Stp.cells)∧AllS (w.heap.size + 1) c w' l∧Apart w' u l∧Got c l c.threads.length 0∧l.length≤2000∧Below w.heap.size w w':=by
 obtain ⟨a0,p0,a1,p1,a2,p2,a3,p3,a4,p4,e0,e1,e2,e3,e4⟩:=cd_open hc
 obtain ⟨ta,tp,te,htr⟩:=RowOf.at hc.2.2.1
 rw [e2] at te
 obtain ⟨rfl,-,rfl⟩:=Value.slice.inj te
 have HC:=hid hc
 have HTR:=hid htr
 have l3:=g.l3
 have VC:=VarAt.new w [.slice a0 c.recs.length p0,.slice a1 c.globs.length p1,.slice a2 c.threads.length p2,.slice a3 c.sites.length p3,.slice a4 c.secs.length p4] 41
 have B0:=hid ((Below.refl w.heap.size w).alloc (Nat.le_refl _) (.cells #[.slice a0 c.recs.length p0,.slice a1 c.globs.length p1,.slice a2 c.threads.length p2,.slice a3 c.sites.length p3,.slice a4 c.secs.length p4] 41))
 replace VC:=hid VC
 have EC : Hid (c.cells = [.slice a0 c.recs.length p0,.slice a1 c.globs.length p1,.slice a2 c.threads.length p2,.slice a3 c.sites.length p3,.slice a4 c.secs.length p4]):=hid (by unfold Cd.cells;rw [e0,e1,e2,e3,e4])
 have HG:=hid g
 rw [EC.out]
 clear e0 e1 e2 e3 e4 htr te hc g
 generalize hnT : c.threads.length = nT at *
 replace hnT:=hid hnT
 go_enter Tryd.func24,Tryd.ntmps24
 go_wp2_with fail
 go_loopw [3,12] (fun t3 t wr=>∃ (i m cp : Nat) (p : Option Addr) (l : List Stp),t = .int .i64 i∧i≤nT∧t3 = .slice p m cp∧m≤256 * i∧Hid (m = l.length)∧Hid (wr.ownsRow (w.heap.size + 1) 73 10 (.slice p m cp) m (l.flatMap Stp.cells))∧Hid (AllS (w.heap.size + 1) c wr l)∧Hid (Apart wr (.slice p m cp) l)∧Hid (Got c l i 0)∧Hid (Below w.heap.size w wr)∧Hid (VarAt wr w.heap.size [.slice a0 c.recs.length p0,.slice a1 c.globs.length p1,.slice a2 nT p2,.slice a3 c.sites.length p3,.slice a4 c.secs.length p4] 41)) (fun _ t _=>nT - (intOf t).toNat)
 case atStart=>exact ⟨0,0,0,none,[],rfl,by omega,rfl,by omega,hid rfl,hid ⟨rfl,.inl ⟨rfl,rfl⟩⟩,hid (fun s hs=>by cases hs),hid (fun s hs=>by cases hs),hid (fun i' t' j' x' _ _ h=>by omega),B0,VC⟩
 case round =>
  obtain ⟨i,m,cp,p,l,rfl,hi,rfl,hm,ML,O,AS,AP,GT,B,V⟩:=hrel
  obtain ⟨wo,rfl⟩ : ∃ wo : World,wo = wr:=⟨wr,rfl⟩
  by_cases hin : i < nT
  ·obtain ⟨t,tb,toff,ht,rfl,tlt,tra,tok⟩:=HTR.out i hin
   obtain ⟨asl,ps,es⟩:=tok.2.1.form
   obtain ⟨ac,pc,ec,hcr⟩:=RowOf.at tok.2.2
   have c0 : w.cell? ⟨tb,toff + i * 3,none⟩ = some t.sv:=tra 0 _ rfl
   have c1 : w.cell? ⟨tb,toff + i * 3 + 1,none⟩ = some t.cv:=tra 1 _ rfl
   have c2 : w.cell? ⟨tb,toff + i * 3 + 2,none⟩ = some (.int .i64 t.most):=tra 2 _ rfl
   rw [es] at c0
   rw [ec] at c1
   rw [← B.out.cell tlt] at c0 c1 c2
   have hlen:=(HG.out.ths i t ht).2.2.2.2.1
   have hsl:=(HG.out.ths i t ht).1
   replace ht:=hid ht
   replace tok:=hid tok
   replace hcr:=hid hcr
   replace es:=hid es
   replace ec:=hid ec
   clear tra
   have BK:=(Below.refl wo.heap.size wo).alloc (Nat.le_refl _) (.cells #[.slice asl t.slots.length ps,.slice ac t.code.length pc,.int .i64 t.most] 55)
   have V5:=hid (VarAt.new wo [.slice asl t.slots.length ps,.slice ac t.code.length pc,.int .i64 t.most] 55)
   have V':=hid (V.out.kept BK)
   have O':=hid (own_keep O.out (fun g hg hl=>BK.block g hl))
   have AS':=hid (AS.out.kept BK)
   have AP':=hid (AP.out.size BK.size)
   have B':=hid (B.out.trans (BK.mono B.out.size))
   have nb5:=hid (fun q (hq : (Value.slice p m cp).ownBlock = some q)=>(by have:=(own_lt O.out hq).2;omega : q ≠ wo.heap.size))
   have hb5:=hid (B.out.size)
   generalize hK : t.code.length = nK at *
   replace hK:=hid hK
   clear O AS AP B V BK
   go_wp2_with fail
   go_loopw [3,20] (fun t3 tt wr=>∃ (j m' cp' : Nat) (p' : Option Addr) (l' : List Stp),tt = .int .i64 j∧j≤nK∧t3 = .slice p' m' cp'∧m'≤256 * i + j∧Hid (m' = l'.length)∧Hid (wr.ownsRow (w.heap.size + 1) 73 10 (.slice p' m' cp') m' (l'.flatMap Stp.cells))∧Hid (AllS (w.heap.size + 1) c wr l')∧Hid (Apart wr (.slice p' m' cp') l')∧Hid (Got c l' i j)∧Hid (Below w.heap.size w wr)∧Hid (VarAt wr w.heap.size [.slice a0 c.recs.length p0,.slice a1 c.globs.length p1,.slice (some ⟨tb,toff,none⟩) nT p2,.slice a3 c.sites.length p3,.slice a4 c.secs.length p4] 41)∧Hid (VarAt wr wo.heap.size [.slice asl t.slots.length ps,.slice ac nK pc,.int .i64 t.most] 55)∧Hid (∀ q,(Value.slice p' m' cp').ownBlock = some q→q ≠ wo.heap.size)) (fun _ tt _=>nK - (intOf tt).toNat)
   case atStart=>exact ⟨0,m,cp,p,l,rfl,by omega,rfl,by omega,ML,O',AS',AP',GT,B',V',V5,nb5⟩
   case round =>
    obtain ⟨j,m',cp',p',l',rfl,hj,rfl,hm',ML',O1,AS1,AP1,GT1,B1,V1,V51,nb51⟩:=hrel
    clear O' AS' AP' B' V' V5 nb5 ML GT c0 c1 c2
    by_cases hjn : j < nK
    ·obtain ⟨x,xb,xoff,hx,rfl,xlt,xra,xok⟩:=hcr.out j hjn
     obtain ⟨ai,pi,ei⟩:=xok.2.1.form
     obtain ⟨ax,px,ex⟩:=xok.2.2.form
     have F:=ins_facts HG.out ht.out hx
     obtain ⟨un,uo⟩:=uses_ok F xok hsl
     have x0 : w.cell? ⟨xb,xoff + j * 8,none⟩ = some (.int .i64 x.op):=xra 0 _ rfl
     have x1:=xra 1 _ rfl
     have x2:=xra 2 _ rfl
     have x3:=xra 3 _ rfl
     have x4:=xra 4 _ rfl
     have x5:=xra 5 _ rfl
     have x6 : w.cell? ⟨xb,xoff + j * 8 + 6,none⟩ = some x.iv:=xra 6 _ rfl
     have x7 : w.cell? ⟨xb,xoff + j * 8 + 7,none⟩ = some x.xv:=xra 7 _ rfl
     rw [ei] at x6
     rw [ex] at x7
     rw [← B1.out.cell xlt] at x0 x1 x2 x3 x4 x5 x6 x7
     have CT:=fun W (h : Below w.heap.size w W)=>targetOf_any c t x W (Cd.kept HC.out h) (Bd.kept tok.out h) (Ins.kept xok h) F
     rw [EC.out] at CT
     simp only [Bd.cells,Ins.cells,Loc.cells] at CT
     rw [es.out,ec.out,ei,ex] at CT
     have CU:=fun W (h : Below w.heap.size w W)=>uses_any x.iv x.items W (Items.kept xok.2.1 h) un uo
     rw [ei] at CU
     replace CT:=hid CT
     replace CU:=hid CU
     have TM:=hid (tgtL_means c t x)
     have hfd:=fun W=>field56 (tgtL c t x).kind (tgtL c t x).rc (tgtL c t x).once W
     have BK:=(Below.refl wr.heap.size wr).alloc (Nat.le_refl _) (.cells #[.int .i64 x.op,.int .i64 x.dst,.int .i64 x.src,.int .i64 x.rc,.int .i64 x.n,.int .i64 x.to,.slice ai x.items.length pi,.slice ax x.index.length px] 58)
     have V7:=hid (VarAt.new wr [.int .i64 x.op,.int .i64 x.dst,.int .i64 x.src,.int .i64 x.rc,.int .i64 x.n,.int .i64 x.to,.slice ai x.items.length pi,.slice ax x.index.length px] 58)
     have B2:=hid (B1.out.trans (BK.mono B1.out.size))
     have V12:=hid (V1.out.kept BK)
     have V52:=hid (V51.out.kept BK)
     have O2:=hid (own_keep O1.out (fun g hg hl=>BK.block g hl))
     have AS2:=hid (AS1.out.kept BK)
     have AP2:=hid (AP1.out.size BK.size)
     have nb7:=hid (fun q (hq : (Value.slice p' m' cp').ownBlock = some q)=>(by have:=(own_lt O1.out hq).2;omega : q ≠ wr.heap.size))
     have hw7 : Hid (wr.heap.size < (wr.alloc (.cells #[.int .i64 x.op,.int .i64 x.dst,.int .i64 x.src,.int .i64 x.rc,.int .i64 x.n,.int .i64 x.to,.slice ai x.items.length pi,.slice ax x.index.length px] 58)).heap.size):=hid (by simp)
     replace ei:=hid ei
     replace ex:=hid ex
     replace hx:=hid hx
     clear F un uo xra BK O1 AS1 AP1 B1 V1 V51 xok
     obtain ⟨y0,y1,y2,y3,y4⟩:=cells5 V12.out
     obtain ⟨z0,z1,z2⟩:=cells3w V52.out
     cases hk4 : ((tgtL c t x).kind == 4)
     ·cases hk3 : ((tgtL c t x).kind == 3)
      ·have hm0 : tgtM c t x = false:=by rw [← TM.out,kinds_of,hk4,hk3];rfl
       have G2:=hid (Got.skip GT1.out ht.out hx.out hm0)
       go_wp2_with (go_at_call 38;refine Calls.mono (CT.out _ B2.out) ?_;rintro _ w2 ⟨rfl,hk⟩;replace B2:=hid (B2.out.trans (hk.mono B2.out.size));replace V12:=hid (V12.out.kept hk);replace V52:=hid (V52.out.kept hk);replace V7:=hid (V7.out.kept hk);replace O2:=hid (own_keep O2.out (fun g hg hl=>hk.block g hl));replace AS2:=hid (AS2.out.kept hk);replace AP2:=hid (AP2.out.size hk.size);clear hk y0 y1 y2 y3 y4 z0 z1 z2)
       go_roundw
       case rel=>exact ⟨j + 1,m',cp',p',l',by go_num,by omega,rfl,by omega,ML',O2,AS2,AP2,G2,B2,V12,V52,nb51⟩
       case measure=>simp [intOf];omega
      ·have hm1:=hid (show tgtM c t x = true by rw [← TM.out,kinds_of,hk4,hk3];rfl)
       go_wp2_with (go_at_call 38;refine Calls.mono (CT.out _ B2.out) ?_;rintro _ w2 ⟨rfl,hk⟩;replace B2:=hid (B2.out.trans (hk.mono B2.out.size));replace V12:=hid (V12.out.kept hk);replace V52:=hid (V52.out.kept hk);replace V7:=hid (V7.out.kept hk);replace O2:=hid (own_keep O2.out (fun g hg hl=>hk.block g hl));replace AS2:=hid (AS2.out.kept hk);replace AP2:=hid (AP2.out.size hk.size);clear hk y0 y1 y2 y3 y4 z0 z1 z2)
       have BD:=hid (B2.out.drew)
       have VD:=hid (V7.out.kept (Below.refl w2.heap.size w2).drew)
       have V1D:=hid (V12.out.kept (Below.refl w2.heap.size w2).drew)
       have V5D:=hid (V52.out.kept (Below.refl w2.heap.size w2).drew)
       have OD:=hid (own_keep (w':=w2.drew) O2.out (fun g hg hl=>rfl))
       have AD:=hid (AS2.out.kept (Below.refl w2.heap.size w2).drew)
       have PD:=hid (Apart.size (W':=w2.drew) AP2.out (Nat.le_refl _))
       have kD:=hid (show w.heap.size + 1≤w2.drew.heap.size from V12.out.lt)
       have sx:=hid (cells8 VD.out)
       have hm63 : Hid (∀ s : Stp,m' + [s].length≤2000000):=hid (fun s=>by simp;omega)
       have ones : Hid (∀ up uc,∀ v ∈ [(⟨x,i,usesN x.items,.slice up (usesN x.items).length uc⟩ : Stp)].flatMap Stp.cells,v.oneCell' = true):=hid (fun up uc v hv=>by
        simp only [List.flatMap_cons,List.flatMap_nil,List.append_nil] at hv
        exact stp_ones (by simp only [];rw [ei.out];rfl) (by simp only [];rw [ex.out];rfl) rfl v hv)
       have G2:=hid (fun s h1 h2=>Got.more GT1.out ht.out hx.out s h1 h2)
       clear V12 V52 V7 O2 AS2 AP2 TM hfd
       refine wp_region_held_drew (S:=fun (w' : World)=>w'.cell? ⟨wr.heap.size,0,none⟩ = some (.int .i64 x.op)∧w'.cell? ⟨wr.heap.size,1,none⟩ = some (.int .i64 x.dst)∧w'.cell? ⟨wr.heap.size,2,none⟩ = some (.int .i64 x.src)∧w'.cell? ⟨wr.heap.size,3,none⟩ = some (.int .i64 x.rc)∧w'.cell? ⟨wr.heap.size,4,none⟩ = some (.int .i64 x.n)∧w'.cell? ⟨wr.heap.size,5,none⟩ = some (.int .i64 x.to)∧w'.cell? ⟨wr.heap.size,6,none⟩ = some (.slice ai x.items.length pi)∧w'.cell? ⟨wr.heap.size,7,none⟩ = some (.slice ax x.index.length px)) (by kernel_rfl) (sx.out) (fun hHeld=>?_)
       refine wT 0 ⟨some 35,.move (.tmp 3),70,"solver.go:29",#[],none⟩ hHeld ?_
       try simp only [Act.put,sA,sB,sC]
       refine wT 1 ⟨some 36,.load 58 (.tmp 7),58,"solver.go:29",#[],none⟩ hHeld ?_
       try simp only [Act.put,sA,sB,sC]
       refine wT 2 ⟨some 37,.move (.tmp 4),3,"solver.go:29",#[],none⟩ hHeld ?_
       try simp only [Act.put,sA,sB,sC]
       refine wT 3 ⟨some 38,.fieldAddr 58 (.tmp 7) 6,0,"solver.go:29",#[],none⟩ hHeld ?_
       try simp only [Act.put,sA,sB,sC]
       refine wT 4 ⟨some 39,.load 56 (.tmp 38),56,"solver.go:29",#[⟨3,.data⟩],none⟩ hHeld ?_
       try simp only [Act.put,sA,sB,sC]
       refine wO 5 ⟨some 40,.call ⟨.value (.func 39),#[.tmp 39],#[56]⟩,25,"solver.go:29",#[⟨4,.data⟩],none⟩ (fun K' hK'=>?_)
       go_simp
       go_at_call 39
       refine Calls.mono (CU.out _ BD.out) ?_
       rintro _ w3 ⟨u,rfl,ou,hk⟩
       replace B2:=hid (BD.out.trans (hk.mono BD.out.size))
       have V3:=hid (VD.out.kept hk)
       have O3:=hid (own_keep OD.out (fun g hg hl=>hk.block g hl))
       have A3:=hid (AD.out.kept hk)
       have NU:=hid (nums_own ou)
       have z3:=hid (Nat.le_trans kD.out hk.size)
       obtain ⟨up,uc,rfl⟩:=own_slice ou
       have hz:=hid (cells8 V3.out)
       refine hK'.out _ _ hz.out (fun hHeld=>?_)
       clear hK' K'
       try simp only [Act.put,sA,sB,sC]
       refine wT 6 ⟨some 41,.build 73 #[(0,.tmp 36),(1,.tmp 37),(2,.tmp 40)],73,"solver.go:29",#[⟨1,.data⟩,⟨2,.data⟩,⟨5,.data⟩],none⟩ hHeld ?_
       try simp only [Act.put,sA,sB,sC]
       refine wO 7 ⟨some 42,.buildSlice 70 1 #[(0,.tmp 41)],70,"solver.go:29",#[⟨6,.data⟩],none⟩ (fun K' hK'=>?_)
       go_simp
       have B4:=hid (B2.out.alloc B2.out.size (.cells #[.int .i64 x.op,.int .i64 x.dst,.int .i64 x.src,.int .i64 x.rc,.int .i64 x.n,.int .i64 x.to,.slice ai x.items.length pi,.slice ax x.index.length px,.int .i64 (i : Int),.slice up (usesN x.items).length uc] 73))
       have hb4 : Hid (w.heap.size + 1≤(w3.alloc (.cells #[.int .i64 x.op,.int .i64 x.dst,.int .i64 x.src,.int .i64 x.rc,.int .i64 x.n,.int .i64 x.to,.slice ai x.items.length pi,.slice ax x.index.length px,.int .i64 (i : Int),.slice up (usesN x.items).length uc] 73)).heap.size):=hid (by have:=z3.out;simp;omega)
       have K4:=hid ((Below.refl w3.heap.size w3).alloc (Nat.le_refl _) (.cells #[.int .i64 x.op,.int .i64 x.dst,.int .i64 x.src,.int .i64 x.rc,.int .i64 x.n,.int .i64 x.to,.slice ai x.items.length pi,.slice ax x.index.length px,.int .i64 (i : Int),.slice up (usesN x.items).length uc] 73))
       have V4:=hid (V3.out.kept K4.out)
       have O4:=hid (own_keep O3.out (fun g hg hl=>K4.out.block g hl))
       have A4:=hid (A3.out.kept K4.out)
       have N4:=hid (NU.out.kept K4.out)
       have R4 : Hid (RowOf Stp.cells 10 (fun _ _=>True) (w3.alloc (.cells #[.int .i64 x.op,.int .i64 x.dst,.int .i64 x.src,.int .i64 x.rc,.int .i64 x.n,.int .i64 x.to,.slice ai x.items.length pi,.slice ax x.index.length px,.int .i64 (i : Int),.slice up (usesN x.items).length uc] 73)) (.slice (some ⟨w3.heap.size,0,none⟩) 1 1) [⟨x,i,usesN x.items,.slice up (usesN x.items).length uc⟩]):=hid (RowOf.one (by have:=BoxAt.new w3 #[.int .i64 x.op,.int .i64 x.dst,.int .i64 x.src,.int .i64 x.rc,.int .i64 x.n,.int .i64 x.to,.slice ai x.items.length pi,.slice ax x.index.length px,.int .i64 (i : Int),.slice up (usesN x.items).length uc] 73;simpa [Stp.cells,ei.out,ex.out] using this) trivial)
       have hz:=hid (cells8 V4.out)
       refine hK'.out _ _ hz.out (fun hHeld=>?_)
       clear hK' K'
       try simp only [Act.put,sA,sB,sC]
       refine wO 8 ⟨some 43,.call ⟨.builtin .append,#[.tmp 35,.tmp 42],#[70,70]⟩,70,"solver.go:29",#[⟨0,.data⟩,⟨7,.data⟩,⟨5,.chain⟩],none⟩ (fun K' hK'=>?_)
       refine step_append_rowof (by rfl) _ _ 70 (by rfl) (w.heap.size + 1) 73 zStp 10 128 Tryd.underlying70 info64 rfl (by decide) (.slice p' m' cp') (by rfl) m' (l'.flatMap Stp.cells) O4.out _ (by rfl) (cells:=Stp.cells) (ok:=fun _ _=>True) (fun _=>rfl) [⟨x,i,usesN x.items,.slice up (usesN x.items).length uc⟩] R4.out (ones.out _ _) (hm63.out _) (by decide) hb4.out ?_
       intro v5 w5 o5 g5 h5
       rw [List.length_singleton] at o5
       obtain ⟨p5,c5,rfl⟩:=own_slice o5
       have T5:=hid (grown_touch g5 O4.out)
       have V5:=hid (V4.out.touch T5.out (fun q=>nb7.out _ q rfl))
       have hz:=hid (cells8 V5.out)
       refine hK'.out _ _ hz.out (fun hHeld=>?_)
       clear hK' K'
       try simp only [Act.put,sA,sB,sC]
       refine wT 9 ⟨some 3,.assign (.tmp 43),70,"solver.go:29",#[⟨8,.data⟩,⟨8,.chain⟩,⟨0,.phase⟩,⟨1,.phase⟩,⟨2,.phase⟩,⟨3,.phase⟩,⟨4,.phase⟩,⟨5,.phase⟩,⟨6,.phase⟩,⟨7,.phase⟩,⟨8,.phase⟩],none⟩ hHeld ?_
       try simp only [Act.put,sA,sB,sC]
       refine wpAnyH_done (by kernel_rfl) ?_ _
       clear hHeld
       have ob:=fun q hq=>own_lt O4.out (g:=q) hq
       have tb2 : ∀ b,b < w.heap.size + 1→¬ (Value.slice p' m' cp').ownBlock = some b:=fun b hb q=>by have:=(ob b q).1;omega
       have R5:=hid (below_touch B4.out T5.out (fun b hb=>tb2 b (by omega)))
       have W1:=hid (((V1D.out.kept hk).kept K4.out).touch T5.out (tb2 _ (by omega)))
       have W5:=hid (((V5D.out.kept hk).kept K4.out).touch T5.out (fun q=>nb51.out _ q rfl))
       have sz:=hk.size
       have PA:=hid (apart_more (lo:=w2.drew.heap.size) (v:=.slice up (usesN x.items).length uc) (x:=x) (i:=i) (us:=usesN x.items) (PD.out.size (Nat.le_trans hk.size K4.out.size)) (fun q hq=>by have:=(own_lt ou hq).2;have:=K4.out.size;omega) (fun q hq=>(own_lt OD.out hq).2) (by have:=K4.out.size;omega) (fun q hq=>(own_lt ou hq).1) T5.out.size h5)
       have SA:=hid (all_more ht.out hx.out hm1.out A4.out (N4.out.mono K4.out.size) (by have:=kD.out;omega) T5.out (PD.out.size (Nat.le_trans hk.size K4.out.size)) (fun q hq he=>by have a1:=(own_lt OD.out he).2;have a2:=(own_lt ou hq).1;omega))
       have nb5':=hid (nb_more nb51.out h5 (by have:=V5D.out.lt;have:=hk.size;have:=K4.out.size;omega))
       go_wp2_with fail
       go_roundw
       case rel=>exact ⟨j + 1,m' + 1,c5,p5,l' ++ [⟨x,i,usesN x.items,.slice up (usesN x.items).length uc⟩],by go_num,by omega,rfl,by omega,hid (by rw [List.length_append,← ML'.out];rfl),hid (by rw [List.flatMap_append];exact o5),SA,PA,hid (G2.out _ rfl rfl),R5,W1,W5,nb5'⟩
       case measure=>simp [intOf];omega
     ·have hm1:=hid (show tgtM c t x = true by rw [← TM.out,kinds_of,hk4];rfl)
      go_wp2_with (go_at_call 38;refine Calls.mono (CT.out _ B2.out) ?_;rintro _ w2 ⟨rfl,hk⟩;replace B2:=hid (B2.out.trans (hk.mono B2.out.size));replace V12:=hid (V12.out.kept hk);replace V52:=hid (V52.out.kept hk);replace V7:=hid (V7.out.kept hk);replace O2:=hid (own_keep O2.out (fun g hg hl=>hk.block g hl));replace AS2:=hid (AS2.out.kept hk);replace AP2:=hid (AP2.out.size hk.size);clear hk y0 y1 y2 y3 y4 z0 z1 z2)
      have BD:=hid (B2.out.drew)
      have VD:=hid (V7.out.kept (Below.refl w2.heap.size w2).drew)
      have V1D:=hid (V12.out.kept (Below.refl w2.heap.size w2).drew)
      have V5D:=hid (V52.out.kept (Below.refl w2.heap.size w2).drew)
      have OD:=hid (own_keep (w':=w2.drew) O2.out (fun g hg hl=>rfl))
      have AD:=hid (AS2.out.kept (Below.refl w2.heap.size w2).drew)
      have PD:=hid (Apart.size (W':=w2.drew) AP2.out (Nat.le_refl _))
      have kD:=hid (show w.heap.size + 1≤w2.drew.heap.size from V12.out.lt)
      have sx:=hid (cells8 VD.out)
      have hm63 : Hid (∀ s : Stp,m' + [s].length≤2000000):=hid (fun s=>by simp;omega)
      have ones : Hid (∀ up uc,∀ v ∈ [(⟨x,i,usesN x.items,.slice up (usesN x.items).length uc⟩ : Stp)].flatMap Stp.cells,v.oneCell' = true):=hid (fun up uc v hv=>by
       simp only [List.flatMap_cons,List.flatMap_nil,List.append_nil] at hv
       exact stp_ones (by simp only [];rw [ei.out];rfl) (by simp only [];rw [ex.out];rfl) rfl v hv)
      have G2:=hid (fun s h1 h2=>Got.more GT1.out ht.out hx.out s h1 h2)
      clear V12 V52 V7 O2 AS2 AP2 TM hfd
      refine wp_region_held_drew (S:=fun (w' : World)=>w'.cell? ⟨wr.heap.size,0,none⟩ = some (.int .i64 x.op)∧w'.cell? ⟨wr.heap.size,1,none⟩ = some (.int .i64 x.dst)∧w'.cell? ⟨wr.heap.size,2,none⟩ = some (.int .i64 x.src)∧w'.cell? ⟨wr.heap.size,3,none⟩ = some (.int .i64 x.rc)∧w'.cell? ⟨wr.heap.size,4,none⟩ = some (.int .i64 x.n)∧w'.cell? ⟨wr.heap.size,5,none⟩ = some (.int .i64 x.to)∧w'.cell? ⟨wr.heap.size,6,none⟩ = some (.slice ai x.items.length pi)∧w'.cell? ⟨wr.heap.size,7,none⟩ = some (.slice ax x.index.length px)) (by kernel_rfl) (sx.out) (fun hHeld=>?_)
      refine wT 0 ⟨some 35,.move (.tmp 3),70,"solver.go:29",#[],none⟩ hHeld ?_
      try simp only [Act.put,sA,sB,sC]
      refine wT 1 ⟨some 36,.load 58 (.tmp 7),58,"solver.go:29",#[],none⟩ hHeld ?_
      try simp only [Act.put,sA,sB,sC]
      refine wT 2 ⟨some 37,.move (.tmp 4),3,"solver.go:29",#[],none⟩ hHeld ?_
      try simp only [Act.put,sA,sB,sC]
      refine wT 3 ⟨some 38,.fieldAddr 58 (.tmp 7) 6,0,"solver.go:29",#[],none⟩ hHeld ?_
      try simp only [Act.put,sA,sB,sC]
      refine wT 4 ⟨some 39,.load 56 (.tmp 38),56,"solver.go:29",#[⟨3,.data⟩],none⟩ hHeld ?_
      try simp only [Act.put,sA,sB,sC]
      refine wO 5 ⟨some 40,.call ⟨.value (.func 39),#[.tmp 39],#[56]⟩,25,"solver.go:29",#[⟨4,.data⟩],none⟩ (fun K' hK'=>?_)
      go_simp
      go_at_call 39
      refine Calls.mono (CU.out _ BD.out) ?_
      rintro _ w3 ⟨u,rfl,ou,hk⟩
      replace B2:=hid (BD.out.trans (hk.mono BD.out.size))
      have V3:=hid (VD.out.kept hk)
      have O3:=hid (own_keep OD.out (fun g hg hl=>hk.block g hl))
      have A3:=hid (AD.out.kept hk)
      have NU:=hid (nums_own ou)
      have z3:=hid (Nat.le_trans kD.out hk.size)
      obtain ⟨up,uc,rfl⟩:=own_slice ou
      have hz:=hid (cells8 V3.out)
      refine hK'.out _ _ hz.out (fun hHeld=>?_)
      clear hK' K'
      try simp only [Act.put,sA,sB,sC]
      refine wT 6 ⟨some 41,.build 73 #[(0,.tmp 36),(1,.tmp 37),(2,.tmp 40)],73,"solver.go:29",#[⟨1,.data⟩,⟨2,.data⟩,⟨5,.data⟩],none⟩ hHeld ?_
      try simp only [Act.put,sA,sB,sC]
      refine wO 7 ⟨some 42,.buildSlice 70 1 #[(0,.tmp 41)],70,"solver.go:29",#[⟨6,.data⟩],none⟩ (fun K' hK'=>?_)
      go_simp
      have B4:=hid (B2.out.alloc B2.out.size (.cells #[.int .i64 x.op,.int .i64 x.dst,.int .i64 x.src,.int .i64 x.rc,.int .i64 x.n,.int .i64 x.to,.slice ai x.items.length pi,.slice ax x.index.length px,.int .i64 (i : Int),.slice up (usesN x.items).length uc] 73))
      have hb4 : Hid (w.heap.size + 1≤(w3.alloc (.cells #[.int .i64 x.op,.int .i64 x.dst,.int .i64 x.src,.int .i64 x.rc,.int .i64 x.n,.int .i64 x.to,.slice ai x.items.length pi,.slice ax x.index.length px,.int .i64 (i : Int),.slice up (usesN x.items).length uc] 73)).heap.size):=hid (by have:=z3.out;simp;omega)
      have K4:=hid ((Below.refl w3.heap.size w3).alloc (Nat.le_refl _) (.cells #[.int .i64 x.op,.int .i64 x.dst,.int .i64 x.src,.int .i64 x.rc,.int .i64 x.n,.int .i64 x.to,.slice ai x.items.length pi,.slice ax x.index.length px,.int .i64 (i : Int),.slice up (usesN x.items).length uc] 73))
      have V4:=hid (V3.out.kept K4.out)
      have O4:=hid (own_keep O3.out (fun g hg hl=>K4.out.block g hl))
      have A4:=hid (A3.out.kept K4.out)
      have N4:=hid (NU.out.kept K4.out)
      have R4 : Hid (RowOf Stp.cells 10 (fun _ _=>True) (w3.alloc (.cells #[.int .i64 x.op,.int .i64 x.dst,.int .i64 x.src,.int .i64 x.rc,.int .i64 x.n,.int .i64 x.to,.slice ai x.items.length pi,.slice ax x.index.length px,.int .i64 (i : Int),.slice up (usesN x.items).length uc] 73)) (.slice (some ⟨w3.heap.size,0,none⟩) 1 1) [⟨x,i,usesN x.items,.slice up (usesN x.items).length uc⟩]):=hid (RowOf.one (by have:=BoxAt.new w3 #[.int .i64 x.op,.int .i64 x.dst,.int .i64 x.src,.int .i64 x.rc,.int .i64 x.n,.int .i64 x.to,.slice ai x.items.length pi,.slice ax x.index.length px,.int .i64 (i : Int),.slice up (usesN x.items).length uc] 73;simpa [Stp.cells,ei.out,ex.out] using this) trivial)
      have hz:=hid (cells8 V4.out)
      refine hK'.out _ _ hz.out (fun hHeld=>?_)
      clear hK' K'
      try simp only [Act.put,sA,sB,sC]
      refine wO 8 ⟨some 43,.call ⟨.builtin .append,#[.tmp 35,.tmp 42],#[70,70]⟩,70,"solver.go:29",#[⟨0,.data⟩,⟨7,.data⟩,⟨5,.chain⟩],none⟩ (fun K' hK'=>?_)
      refine step_append_rowof (by rfl) _ _ 70 (by rfl) (w.heap.size + 1) 73 zStp 10 128 Tryd.underlying70 info64 rfl (by decide) (.slice p' m' cp') (by rfl) m' (l'.flatMap Stp.cells) O4.out _ (by rfl) (cells:=Stp.cells) (ok:=fun _ _=>True) (fun _=>rfl) [⟨x,i,usesN x.items,.slice up (usesN x.items).length uc⟩] R4.out (ones.out _ _) (hm63.out _) (by decide) hb4.out ?_
      intro v5 w5 o5 g5 h5
      rw [List.length_singleton] at o5
      obtain ⟨p5,c5,rfl⟩:=own_slice o5
      have T5:=hid (grown_touch g5 O4.out)
      have V5:=hid (V4.out.touch T5.out (fun q=>nb7.out _ q rfl))
      have hz:=hid (cells8 V5.out)
      refine hK'.out _ _ hz.out (fun hHeld=>?_)
      clear hK' K'
      try simp only [Act.put,sA,sB,sC]
      refine wT 9 ⟨some 3,.assign (.tmp 43),70,"solver.go:29",#[⟨8,.data⟩,⟨8,.chain⟩,⟨0,.phase⟩,⟨1,.phase⟩,⟨2,.phase⟩,⟨3,.phase⟩,⟨4,.phase⟩,⟨5,.phase⟩,⟨6,.phase⟩,⟨7,.phase⟩,⟨8,.phase⟩],none⟩ hHeld ?_
      try simp only [Act.put,sA,sB,sC]
      refine wpAnyH_done (by kernel_rfl) ?_ _
      clear hHeld
      have ob:=fun q hq=>own_lt O4.out (g:=q) hq
      have tb2 : ∀ b,b < w.heap.size + 1→¬ (Value.slice p' m' cp').ownBlock = some b:=fun b hb q=>by have:=(ob b q).1;omega
      have R5:=hid (below_touch B4.out T5.out (fun b hb=>tb2 b (by omega)))
      have W1:=hid (((V1D.out.kept hk).kept K4.out).touch T5.out (tb2 _ (by omega)))
      have W5:=hid (((V5D.out.kept hk).kept K4.out).touch T5.out (fun q=>nb51.out _ q rfl))
      have sz:=hk.size
      have PA:=hid (apart_more (lo:=w2.drew.heap.size) (v:=.slice up (usesN x.items).length uc) (x:=x) (i:=i) (us:=usesN x.items) (PD.out.size (Nat.le_trans hk.size K4.out.size)) (fun q hq=>by have:=(own_lt ou hq).2;have:=K4.out.size;omega) (fun q hq=>(own_lt OD.out hq).2) (by have:=K4.out.size;omega) (fun q hq=>(own_lt ou hq).1) T5.out.size h5)
      have SA:=hid (all_more ht.out hx.out hm1.out A4.out (N4.out.mono K4.out.size) (by have:=kD.out;omega) T5.out (PD.out.size (Nat.le_trans hk.size K4.out.size)) (fun q hq he=>by have a1:=(own_lt OD.out he).2;have a2:=(own_lt ou hq).1;omega))
      have nb5':=hid (nb_more nb51.out h5 (by have:=V5D.out.lt;have:=hk.size;have:=K4.out.size;omega))
      go_wp2_with fail
      go_roundw
      case rel=>exact ⟨j + 1,m' + 1,c5,p5,l' ++ [⟨x,i,usesN x.items,.slice up (usesN x.items).length uc⟩],by go_num,by omega,rfl,by omega,hid (by rw [List.length_append,← ML'.out];rfl),hid (by rw [List.flatMap_append];exact o5),SA,PA,hid (G2.out _ rfl rfl),R5,W1,W5,nb5'⟩
      case measure=>simp [intOf];omega
    ·have ej : j = nK:=by omega
     subst ej
     have G2:=hid (Got.next (hK.out ▸ GT1.out) ht.out)
     go_wp2_with fail
     go_roundw
     case rel=>exact ⟨i + 1,m',cp',p',l',by go_num,by omega,rfl,by omega,ML',O1,AS1,AP1,G2,B1,V1⟩
     case measure=>simp [intOf];omega
  ·have ei : i = nT:=by omega
   subst ei
   clear HTR
   go_wp2
   go_ret
   rw [ML.out] at O
   exact ⟨_,l,rfl,ML.out ▸ O.out,AS.out,AP.out,GT.out,by have:=ML.out;omega,B.out⟩
end Go.Proofs.YtdpbapoahfggeaaDoor
/- Rows of sets that are made, one by one: memory. -/
namespace Go.Proofs.YtdpbapoahfggeaaDoor
open Go.ChangeShapes Go.WideShapes Go.ChangeAt Go.RowKit Go.Deep
set_option linter.unusedVariables false
set_option linter.unusedSimpArgs false

theorem made_zero (n : Nat) : madeCells #[.int .u64 0] (n * 1) = (cellsN (zeros n)).toArray := by
  apply Array.ext
  · simp [madeCells, cellsN, zeros]
  · intro i h1 h2
    simp [madeCells, cellsN, zeros, nV, Nat.mod_one]
theorem info44 : (Tryd.prog.info? 23).map (fun i => (i.zero, i.size, i.bytes)) = some (some (.int .u64 0), 1, 8) := by kernel_rfl
theorem run_make44 (n : Nat) (hn : n ≤ 1000) (w : World) : (Instr.makeSlice 27 (.int .i64 (n : Int)) (.int .i64 (n : Int))).run Tryd.prog w = .ok (.slice (some ⟨w.heap.size, 0, none⟩) n n) (w.alloc (.cells (cellsN (zeros n)).toArray 23)) := by
  obtain ⟨i, hi, z0, z1, z2⟩ := info_parts info44
  have := run_make (P := Tryd.prog) w 27 23 i _ Tryd.underlying27 hi z0 .i64 .i64 (n : Int) (n : Int) (by omega) (by omega) (by rw [z2]; omega) (by omega)
  rw [z1] at this
  simp only [Int.toNat_natCast] at this
  rw [this]
  simp only [Value.cells]
  rw [made_zero]

/-- Rows of sets that were made: those of Dn. -/
structure Rows0 (w : World) (base : Nat) (Dn : Nat → Prop) (vs : Nat → Value) (bs ns : Nat → Nat) : Prop where
  row : ∀ r, Dn r → ∃ a cp, vs r = .slice a (ns r) cp ∧ (ns r ≠ 0 → a = some ⟨bs r, 0, none⟩ ∧ VarAt w (bs r) (cellsN (zeros (ns r))) 23 ∧ base ≤ bs r)
  sep : ∀ r r', Dn r → Dn r' → ns r ≠ 0 → ns r' ≠ 0 → bs r = bs r' → r = r'
theorem Rows0.touch {T : Nat → Prop} {w w' : World} {base : Nat} {Dn : Nat → Prop} {vs : Nat → Value} {bs ns : Nat → Nat} (h : Rows0 w base Dn vs bs ns) (k : Touch T w w') (hT : ∀ r, Dn r → ns r ≠ 0 → ¬ T (bs r)) : Rows0 w' base Dn vs bs ns :=
  ⟨fun r hr => by
    obtain ⟨a, cp, h1, h2⟩ := h.row r hr
    exact ⟨a, cp, h1, fun hn => ⟨(h2 hn).1, (h2 hn).2.1.touch k (hT r hr hn), (h2 hn).2.2⟩⟩, h.sep⟩
theorem Rows0.kept {w w' : World} {base : Nat} {Dn : Nat → Prop} {vs : Nat → Value} {bs ns : Nat → Nat} (h : Rows0 w base Dn vs bs ns) (k : Below w.heap.size w w') : Rows0 w' base Dn vs bs ns := h.touch (T := fun _ => False) (Touch.of_below k) (fun _ _ _ q => q)
theorem Rows0.lt {w : World} {base : Nat} {Dn : Nat → Prop} {vs : Nat → Value} {bs ns : Nat → Nat} (h : Rows0 w base Dn vs bs ns) {r : Nat} (hr : Dn r) (hn : ns r ≠ 0) : base ≤ bs r ∧ bs r < w.heap.size := by
  obtain ⟨a, cp, h1, h2⟩ := h.row r hr
  exact ⟨(h2 hn).2.2, (h2 hn).2.1.lt⟩
def putV {α : Type} (f : Nat → α) (r : Nat) (v : α) : Nat → α := fun k => if k = r then v else f k
theorem putV_same {α : Type} (f : Nat → α) (r : Nat) (v : α) : putV f r v r = v := by simp [putV]
theorem putV_other {α : Type} (f : Nat → α) {r k : Nat} (v : α) (h : k ≠ r) : putV f r v k = f k := by simp [putV, h]
/-- One more row, just made. -/
theorem Rows0.more {w : World} {base : Nat} {Dn : Nat → Prop} {vs : Nat → Value} {bs ns : Nat → Nat} (h : Rows0 w base Dn vs bs ns) (r : Nat) (hr : ¬ Dn r) (hb : base ≤ w.heap.size) :
    Rows0 (w.alloc (.cells (cellsN (zeros (ns r))).toArray 23)) base (fun k => Dn k ∨ k = r) (putV vs r (.slice (some ⟨w.heap.size, 0, none⟩) (ns r) (ns r))) (putV bs r w.heap.size) ns := by
  have h2 := h.kept ((Below.refl w.heap.size w).alloc (Nat.le_refl _) (.cells (cellsN (zeros (ns r))).toArray 23))
  have ne : ∀ k, Dn k → k ≠ r := fun k hk e => hr (e ▸ hk)
  refine ⟨fun k hk => ?_, fun a b ha hb' na nb e => ?_⟩
  · by_cases e : k = r
    · subst e
      rw [putV_same, putV_same]
      exact ⟨_, _, rfl, fun _ => ⟨rfl, VarAt.new w _ 23, hb⟩⟩
    · rw [putV_other _ _ e, putV_other _ _ e]
      exact h2.row k (hk.resolve_right e)
  · by_cases ea : a = r
    · by_cases eb : b = r
      · rw [ea, eb]
      · rw [ea, putV_same, putV_other _ _ eb] at e
        have := (h.lt (hb'.resolve_right eb) nb).2
        omega
    · by_cases eb : b = r
      · rw [eb, putV_same, putV_other _ _ ea] at e
        have := (h.lt (ha.resolve_right ea) na).2
        omega
      · rw [putV_other _ _ ea, putV_other _ _ eb] at e
        exact h.sep a b (ha.resolve_right ea) (hb'.resolve_right eb) na nb e
/-- One more row, of nothing. -/
theorem Rows0.none {w : World} {base : Nat} {Dn : Nat → Prop} {vs : Nat → Value} {bs ns : Nat → Nat} (h : Rows0 w base Dn vs bs ns) (r : Nat) (hr : ¬ Dn r) (hn : ns r = 0) :
    Rows0 w base (fun k => Dn k ∨ k = r) (putV vs r (.slice none 0 0)) bs ns := by
  have ne : ∀ k, Dn k → k ≠ r := fun k hk e => hr (e ▸ hk)
  refine ⟨fun k hk => ?_, fun a b ha hb' na nb e => ?_⟩
  · by_cases e : k = r
    · subst e
      rw [putV_same, hn]
      exact ⟨_, _, rfl, fun q => absurd rfl q⟩
    · rw [putV_other _ _ e]
      exact h.row k (hk.resolve_right e)
  · refine h.sep a b (ha.resolve_right ?_) (hb'.resolve_right ?_) na nb e
    · rintro rfl; exact na hn
    · rintro rfl; exact nb hn
theorem Rows0.imp {w : World} {base : Nat} {Dn Dn' : Nat → Prop} {vs : Nat → Value} {bs ns : Nat → Nat} (h : Rows0 w base Dn vs bs ns) (k : ∀ r, Dn' r → Dn r) : Rows0 w base Dn' vs bs ns :=
  ⟨fun r hr => h.row r (k r hr), fun r r' a b => h.sep r r' (k r a) (k r' b)⟩

def zeroR (c : Cd) : List (List Nat) := (shapeC c).map zeros
theorem shp_zero (c : Cd) : shp (zeroR c) = shapeC c := by
  unfold shp zeroR
  rw [List.map_map]
  have : (List.length ∘ zeros) = id := by funext n; simp [zeros]
  rw [this, List.map_id]
theorem zero_at (c : Cd) (r j : Nat) : gR (zeroR c) r j = 0 := by
  have h : ∀ o : Option Nat, ((o.map zeros).getD []).getD j 0 = 0 := fun o => by
    cases o with
    | none => simp
    | some n =>
      simp only [Option.map_some, Option.getD_some, zeros, List.getD, List.getElem?_replicate]
      split <;> simp
  have e : (zeroR c).getD r [] = ((shapeC c)[r]?.map zeros).getD [] := by unfold zeroR; simp only [List.getD, List.getElem?_map]
  unfold gR
  rw [e]
  exact h _
theorem low_zero (c : Cd) : Low c (zeroR c) := ⟨shp_zero c, fun T _ _ r j => by rw [zero_at]; exact Sub.zero _⟩
theorem zero_row (c : Cd) {r : Nat} {l : List Nat} (h : (zeroR c)[r]? = some l) : l = zeros ((shapeC c).getD r 0) := by
  unfold zeroR at h
  rw [List.getElem?_map] at h
  obtain ⟨n, h1, rfl⟩ := Option.map_eq_some_iff.1 h
  simp [List.getD, h1]
theorem zeros_nil {n : Nat} : zeros n ≠ [] ↔ n ≠ 0 := by
  unfold zeros
  rw [← List.length_pos_iff, List.length_replicate]
  omega

def cellV (v : Value) : List Value := [v]
theorem flat_cellV (l : List Value) : l.flatMap cellV = l := by
  induction l with
  | nil => rfl
  | cons a l ih => simp [List.flatMap_cons, cellV, ih]
/-- A row of rows that this call owns, as others read it. -/
theorem out_own {w : World} {base base' top : Nat} {v : Value} {n : Nat} {f : Nat → Value} {Bd : Nat → Prop} (h : w.ownsRow base 27 1 v n ((List.range n).map f)) (hb : base' ≤ base) (ht : w.heap.size ≤ top) (hd : ∀ q, v.ownBlock = some q → ¬ Bd q) : OutM w base' top v n f Bd := by
  rcases h.2 with ⟨rfl, h0⟩ | ⟨g, cap, cur, rfl, hbg, hg, hle, hcm, hcs, htk⟩
  · have hn : n = 0 := by simpa using h0
    subst hn
    exact ⟨none, 0, rfl, fun i hi => by omega⟩
  · have hlt : g < w.heap.size := (Array.getElem?_eq_some_iff.1 hg).1
    refine ⟨some ⟨g, 0, none⟩, cap, rfl, fun i hi => ⟨g, 0, rfl, by omega, by omega, hlt, hd g rfl, ?_⟩⟩
    have := h.cells (g := g) rfl i (f i) (by simp [hi])
    rw [add_plain, Nat.zero_add] at this
    rw [Nat.zero_add]
    exact this
end Go.Proofs.YtdpbapoahfggeaaDoor
