/- gone: what Each hands over, as a row. -/
import Derived.Test.YtkdpcaoocmbbhaaDoorEa
import Derived.Test.YtkdpcaoocmbbhaaDoorM12
import Derived.Test.YtkdpcaoocmbbhaaDoorM10
import Derived.Maps.OwnIn
namespace Go.Proofs.YtkdpcaoocmbbhaaDoor
open Go.ChangeShapes Go.WideShapes Go.ChangeAt Go.RowKit Go.Deep
set_option linter.unusedVariables false
set_option linter.unusedSimpArgs false
attribute [local go_sem] Oper.semAt_some

/-- While gone grows. -/
structure GnW (w : World) (most : Int) (l : List Nat) (k : Nat) (u : Value) (X : World) : Prop where
 b0 : VarAt X w.heap.size [.int .i64 most] 3
 b1 : VarAt X (w.heap.size + 1) [u] 45
 own : X.ownsRow (w.heap.size + 5) 3 1 u k ((l.take k).flatMap cellI)
 len : k≤l.length∧(k : Int)≤max most 0
 bel : Below w.heap.size w X
def GnT (n b : Nat) : Prop:=b = n + 1∨n + 5≤b
def GnP (w : World) (most : Int) (l : List Nat) (X : World) : Prop:=∃ k u,GnW w most l k u X∧l.take k = l.take (max most 0).toNat
theorem GnW.aside {w : World} {most : Int} {l : List Nat} {k : Nat} {u : Value} {X X' : World} (h : GnW w most l k u X) (ht : Touch (fun b=>b = w.heap.size + 3∨b = w.heap.size + 4) X X') : GnW w most l k u X':=by
 have l1:=h.b1.lt
 exact ⟨h.b0.touch ht (by omega),h.b1.touch ht (by omega),own_keep h.own (fun g hg hl=>ht.block g hl (by omega)),h.len,below_touch h.bel ht (fun i hi=>by omega)⟩
theorem GnW.kept {w : World} {most : Int} {l : List Nat} {k : Nat} {u : Value} {X X' : World} (h : GnW w most l k u X) (ht : Below X.heap.size X X') : GnW w most l k u X' :=
 ⟨h.b0.kept ht,h.b1.kept ht,own_keep h.own (fun g hg hl=>ht.block g hl),h.len,h.bel.trans (ht.mono h.bel.size)⟩
theorem GnW.slice {w : World} {most : Int} {l : List Nat} {k : Nat} {u : Value} {X : World} (h : GnW w most l k u X) : ∃ p c,u = .slice p k c:=by
 obtain ⟨p,c,e⟩:=own_slice h.own
 exact ⟨p,c,e⟩

theorem GnW.more {w X w5 w6 : World} {most : Int} {l : List Nat} {k q : Nat} {u v' : Value} (h : GnW w most l k u X) (hq : l[k]? = some q) (hkm : (k : Int) < most) (hX : w.heap.size + 5≤X.heap.size)
  (o5 : w5.ownsRow (w.heap.size + 5) 3 1 v' (k + 1) ((l.take k).flatMap cellI ++ [.int .i64 (q : Int)])) (g5 : (X.alloc (.cells #[.int .i64 (q : Int)] 3)).grownBy w5 u.ownBlock) (hv : VarAt w6 (w.heap.size + 1) [v'] 45) (ht : Turned (w.heap.size + 1) w5 w6) : GnW w most l (k + 1) v' w6∧Touch (GnT w.heap.size) X w6:=by
 have h1:=h.kept ((Below.refl X.heap.size X).alloc (Nat.le_refl _) (.cells #[.int .i64 (q : Int)] 3))
 have tg:=grown_touch g5 h1.own
 have ol:=fun g (hg : u.ownBlock = some g)=>(own_lt h1.own hg).1
 have hkl:=(List.getElem?_eq_some_iff.1 hq).1
 refine ⟨⟨ht.var (h1.b0.touch tg (fun e=>by have:=ol _ e;omega)) (by omega),hv,?_,⟨hkl,by omega⟩,?_⟩,?_⟩
 ·rw [take_snoc' hq,List.flatMap_append]
  exact own_keep o5 (fun g hg hl=>ht.block g (by omega))
 ·exact ht.below (below_touch h1.bel tg (fun i hi e=>by have:=ol _ e;omega)) (by omega)
 ·exact ((Touch.of_below ((Below.refl X.heap.size X).alloc (Nat.le_refl _) _)).trans (tg.mono (fun i _ e=>.inr (ol _ e)))).trans (ht.t1.mono (fun i _ e=>.inl e))
theorem size45 : (Tryd.prog.info? 45).map (·.size) = some 1:=by kernel_rfl
theorem info3' : ∃ i,Tryd.prog.info? 3 = some i∧i.zero = some (.int .i64 0)∧i.size = 1∧i.bytes = 8:=by
 cases h : Tryd.prog.info? 3 with
 | none=>have:=info3;rw [h] at this;cases this
 | some i=>have:=info3;rw [h] at this;simp at this;exact ⟨i,rfl,this.1,this.2.1,this.2.2⟩
theorem wli_store_cell {F : Fence} {n : Nat} {ops : Array Oper} {rest : List Oper} {op : Oper} {a : Act} {w : World} {Q : Exit→Act→World→Prop} (hgd : op.guard = none) (ty : TypeId) (x y : Operand) (ho : op.op = .store ty x y)
  (b o : Nat) (hx : a.eval x = .pointer (some ⟨b,o,none⟩)) (u : Value) (hy : a.eval y = u) (hT : (Tryd.prog.info? ty).map (·.size) = some 1) (h1 : u.oneCell' = true)
  (cs : List Value) (t : TypeId) (hv : VarAt w b cs t) (hl : o < cs.length)
  (h : ∀ w',VarAt w' b (cs.set o u) t→Turned b w w'→wpListIn F n Tryd.prog ops Q rest (a.put op.dst undef) w') : wpListIn F n Tryd.prog ops Q (op :: rest) a w:=by
 refine wpListIn_plain hgd fun K hK=>?_
 unfold Oper.wpIn
 refine ⟨by simp [Oper.about,ho],?_⟩
 rw [Oper.semAt_plain F _ _ (by rw [ho];intro c hc';cases hc')]
 simp only [execOp,ho,hx,hy,Instr.storeAt,Instr.sureAddr,Sem.run_bind,Sem.run_pure,Result.andThen_ok,run_store_cell ty b o u hT h1 cs t hv hl]
 exact hK _ _ (h _ (hv.set o u) (Turned.sets b [u] o w))

set_option maxRecDepth 100000 in
set_option maxHeartbeats 1000000 in
theorem gone_any (s : Nat) (hs : s < 18446744073709551616) (most : Int) (w : World) (hTab : Tab w) :
  Calls Tryd.prog 17 #[.int .u64 (s : Int),.int .i64 most] w fun e w'=>∃ u l,l = (bitsL s).take (max most 0).toNat∧e = .returned u∧w'.ownsRow (w.heap.size + 5) 3 1 u l.length (l.flatMap cellI)∧Below w.heap.size w w':=by
 have hb0:=hTab.lt
 replace hTab:=hid hTab
 refine (callsIn_wide (n:=3)).1 ?_
 refine callsIn_of_wp_marks Tryd.func17 rfl trivial ?_ rfl
 simp only [Tryd.ntmps17,List.size_toArray,List.length_cons,List.length_nil,Nat.reduceAdd,Nat.reduceSub,Array.replicate_succ,Array.replicate_zero,List.push_toArray,List.append_toArray,List.nil_append,List.cons_append]
 have K1:=VarAt.new w [.int .i64 most] 3
 have K2:=VarAt.new (w.alloc (.cells #[.int .i64 most] 3)) [.slice none 0 0] 45
 have HL : (bitsL s).length≤64:=bits_len s
 gi_wp2_with (refine ⟨trivial,?_⟩;gi_at_call 32;refine (callsIn_wide.2 (each_any _ _)).mono ?_;rintro _ w' ⟨rfl,rfl⟩)
 have B2:=below2 w (.cells #[.int .i64 most] 3) (.cells #[.slice none 0 0] 45)
 have BZ:=B2.alloc B2.size (.cells #[.int .u64 (s : Int)] 44)
 have D0 : GnW w most (bitsL s) 0 (.slice none 0 0) (((w.alloc (.cells #[.int .i64 most] 3)).alloc (.cells #[.slice none 0 0] 45)).alloc (.cells #[.int .u64 (s : Int)] 44)):=by
  refine ⟨(K1.past _).past _,?_,⟨rfl,.inl ⟨rfl,rfl⟩⟩,⟨Nat.zero_le _,by omega⟩,BZ⟩
  have:=K2.past (.cells #[.int .u64 (s : Int)] 44)
  simpa using this
 have TZ : Tab (((w.alloc (.cells #[.int .i64 most] 3)).alloc (.cells #[.slice none 0 0] 45)).alloc (.cells #[.int .u64 (s : Int)] 44)):=hTab.out.below BZ hTab.out.lt
 have nc:=new_cell ((w.alloc (.cells #[.int .i64 most] 3)).alloc (.cells #[.slice none 0 0] 45)) #[.int .u64 (s : Int)] 44 0 _ rfl
 simp only [World.size_alloc] at nc
 have hS:=fun n'=>each1_seq (GnT w.heap.size) (fun q=>by rcases q with q | q <;> omega) s hs (w.heap.size + 1 + 1) _ nc TZ n'
 clear nc
 replace hS:=hid hS
 have sZ : (((w.alloc (.cells #[.int .i64 most] 3)).alloc (.cells #[.slice none 0 0] 45)).alloc (.cells #[.int .u64 (s : Int)] 44)).heap.size = w.heap.size + 3:=by simp
 generalize hZ : ((w.alloc (.cells #[.int .i64 most] 3)).alloc (.cells #[.slice none 0 0] 45)).alloc (.cells #[.int .u64 (s : Int)] 44) = Z at *
 clear hZ K1 K2 B2 BZ TZ
 replace D0:=hid D0
 generalize hl : bitsL s = l at *
 refine wpIn_range3 rfl rfl (gf:=46) (lb:=#[.pointer (some ⟨w.heap.size + 1 + 1,0,none⟩)]) rfl trivial (enters_of Tryd.func46 (by kernel_rfl) rfl) hS.out ⟨fun q=>by rcases q with q | q <;> omega,fun q=>by rcases q with q | q <;> omega⟩ (fun k args W h=>by obtain ⟨x,_,rfl⟩:=h;rfl)
  (fun k X=>∃ u,GnW w most l k u X) (fun c X=>c = .exit 0∧GnP w most l X) ?hI ?hIx ?h0 (fun k a' X=>∃ q : Nat,l[k]? = some q∧a' = { tmps:=(.int .u64 (s : Int) :: .int .i64 most :: undef :: .pointer (some ⟨w.heap.size,0,none⟩) :: .slice none 0 0 :: .pointer (some ⟨w.heap.size + 1,0,none⟩) :: .int .i64 (q : Int) :: .int .u64 (s : Int) :: .func (.func 46) #[] #[.pointer (some ⟨w.heap.size + 1 + 1,0,none⟩)] :: .int .i64 (q : Int) :: undef :: undef :: undef :: undef :: undef :: undef :: undef :: undef :: undef :: []).toArray,defers:=[] }) ?hA ?assign ?body ?done ?stop
 case hI =>
  rintro k X X' hz ⟨u,h⟩ ht
  exact ⟨u,h.aside (ht.mono (fun i _ e=>by omega))⟩
 case hIx =>
  rintro k X X' hz ⟨e,kk,u,h,e2⟩ ht
  exact ⟨e,kk,u,h.aside (ht.mono (fun i _ e=>by omega)),e2⟩
 case h0 =>
  intro X hb hz
  exact ⟨_,D0.out.kept hb⟩
 case hA=>exact fun k a' X X' h _ _=>h
 case assign =>
  rintro lp k args X K ⟨q,hq,rfl⟩ hsz hK
  gi_wp2
  exact hK _ _ (Below.refl _ _) ⟨q,hq,rfl⟩
 case body =>
  rintro lp k a' X ⟨u,hG⟩ hk ⟨q,hq,rfl⟩ hsz
  obtain ⟨p,cp,rfl⟩:=hG.slice
  have x0:=hG.b0.cell 0 rfl
  have x1:=hG.b1.cell 0 rfl
  have hlen:=hG.len
  have HX : w.heap.size + 5≤X.heap.size:=by omega
  by_cases hkm : most≤(k : Int)
  ·have PX : GnP w most l X:=⟨k,_,hG,by
    have : k = (max most 0).toNat:=by omega
    rw [this]⟩
   replace PX:=hid PX
   clear hG hS D0 hTab
   gi_wp2_with fail
   exact ⟨Touch.refl _ _,rfl,PX.out⟩
  ·obtain ⟨i3,hi3,hz3,hs3,hb3⟩:=info3'
   have hkm' : (k : Int) < most:=by omega
   have BA:=(Below.refl X.heap.size X).alloc (Nat.le_refl _) (.cells #[.int .i64 (q : Int)] 3)
   have G2:=hid (hG.kept BA)
   have NB:=hid (BoxAt.new X #[.int .i64 (q : Int)] 3)
   have GM:=hid (fun v' w5 w6=>hG.more (v':=v') (w5:=w5) (w6:=w6) hq hkm' HX)
   have a1 : k + 1≤maxLen:=by unfold maxLen;omega
   have a2 : (k + 1) * 8≤140737488355328:=by omega
   have a3 : w.heap.size + 5≤(X.alloc (.cells #[.int .i64 (q : Int)] 3)).heap.size:=by rw [World.size_alloc];omega
   have a4 : ∀ (j : Nat) (u : Value),[Value.int .i64 (q : Int)][j]? = some u→(X.alloc (.cells #[.int .i64 (q : Int)] 3)).cell? (Addr.add ⟨X.heap.size,0,none⟩ j) = some u:=fun j u hj=>by
    have:=NB.out.2 j u hj
    rw [add_plain]
    simpa using this
   replace a1:=hid a1
   replace a2:=hid a2
   replace a3:=hid a3
   replace a4:=hid a4
   clear hG hS D0 hTab BA
   gi_wp2_with (first
    | (refine wpListIn_append_own_at _ rfl _ _ 45 rfl (w.heap.size + 5) 3 i3 (.int .i64 0) 1 8 Tryd.underlying45 hi3 hz3 hs3 hb3 rfl (by decide) (.slice p k cp) k _ rfl G2.out.own ⟨X.heap.size,0,none⟩ 1 1 [.int .i64 (q : Int)] rfl rfl a4.out (by simp [Value.oneCell']) a1.out a2.out a3.out ?_;intro v' w5 o5 g5 hn5 h5;obtain ⟨p5,c5,rfl⟩:=own_slice o5;have V5:=G2.out.b1.touch (grown_touch g5 G2.out.own) (fun e=>by have:=(own_lt G2.out.own e).1;omega))
    | (refine wli_store_cell rfl 45 _ _ rfl (w.heap.size + 1) 0 rfl _ rfl size45 rfl _ _ V5 (by simp) ?_;intro w6 hv ht))
   have gm:=GM.out _ _ _ o5 g5 hv ht
   exact ⟨gm.2,_,gm.1⟩
 case done =>
  rintro D X ⟨u,h⟩ hD hK
  obtain ⟨p,cp,rfl⟩:=h.slice
  have x1:=h.b1.cell 0 rfl
  replace h:=hid h
  replace hK:=hid hK
  clear hS D0
  gi_wp2_with fail
  refine ⟨by simp,.inl ⟨_,_,rfl,run_takeDeferred hK.out,?_⟩⟩
  have hE:=h.out.aside (Touch.putObj (T:=fun b=>b = w.heap.size + 3∨b = w.heap.size + 4) X D (.deferred none) (by omega))
  have e0 : l = l.take (max most 0).toNat:=by
   have:=hE.len
   rw [List.take_of_length_le (by omega)]
  refine ⟨_,results_tmp (P:=Tryd.prog) rfl _ _,_,l,by rw [hl];exact e0,rfl,?_,hE.bel⟩
  have:=hE.own
  rw [List.take_length] at this
  exact this
 case stop =>
  rintro D c X ⟨rfl,k,u,h,e⟩ hD hK
  obtain ⟨p,cp,rfl⟩:=h.slice
  have x1:=h.b1.cell 0 rfl
  replace h:=hid h
  replace hK:=hid hK
  clear hS D0
  gi_wp2_with fail
  refine ⟨by simp,.inl ⟨_,_,rfl,run_takeDeferred hK.out,?_⟩⟩
  have hE:=h.out.aside (Touch.putObj (T:=fun b=>b = w.heap.size + 3∨b = w.heap.size + 4) X D (.deferred none) (by omega))
  refine ⟨_,results_tmp (P:=Tryd.prog) rfl _ _,_,l.take k,by rw [e,hl],rfl,?_,hE.bel⟩
  have e2 : (l.take k).length = k:=by rw [List.length_take];have:=hE.len;omega
  have:=hE.own
  rw [e2]
  exact this
end Go.Proofs.YtkdpcaoocmbbhaaDoor
