/- Round: what a round makes of sets. -/
import Derived.Test.YtkdpcaoocmbbhaaDoorPh
namespace Go.Proofs.YtkdpcaoocmbbhaaDoor
open Go.ChangeShapes Go.WideShapes Go.ChangeAt Go.RowKit Go.Deep
set_option linter.unusedVariables false
set_option linter.unusedSimpArgs false

/-- Sets between those that a round is handed and all that are closed above them. -/
structure Mdw (c : Cd) (R R1 : List (List Nat)) : Prop where
 shape : shp R1 = shapeC c
 le : LeR R R1
 least : ∀ T,shp T = shapeC c→Closed c T→LeR R T→LeR R1 T
theorem Mdw.low {c : Cd} {R R1 : List (List Nat)} (h : Mdw c R R1) (hL : Low c R) : Low c R1:=⟨h.shape,fun T h1 h2=>h.least T h1 h2 (hL.2 T h1 h2)⟩
theorem Mdw.refl {c : Cd} {R : List (List Nat)} (hL : Low c R) : Mdw c R R:=⟨hL.1,LeR.refl _,fun _ _ _ h=>h⟩
theorem Mdw.bring {c : Cd} {R R1 : List (List Nat)} (h : Mdw c R R1) {r j m : Nat} (hj : j < (R1.getD r []).length) (hm : ∀ T,shp T = shapeC c→Closed c T→LeR R T→Sub m (gR T r j)) : Mdw c R (bringR R1 r j m) :=
 ⟨(shp_bring _ _ _ _).trans h.shape,h.le.trans (le_bring hj),fun T h1 h2 h3=>bring_le hj (h.least T h1 h2 h3) (hm T h1 h2 h3)⟩
theorem Mdw.row {c : Cd} {R R1 : List (List Nat)} (h : Mdw c R R1) (r : Nat) : (R1.getD r []).length = (shapeC c).getD r 0:=by rw [row_len,h.shape]
section
variable {c : Cd} {R R1 : List (List Nat)} {i k : Nat} {b : Bd} {x : Ins}
def stD (c : Cd) (R R1 : List (List Nat)) (i : Nat) (b : Bd) (x : Ins) : List (List Nat):=if dstB b x = true then bringR R1 i x.dst.toNat (brM c R i x) else R1
def stG (c : Cd) (R R1 : List (List Nat)) (i : Nat) (x : Ins) : List (List Nat):=if gloB c x = true then bringR R1 c.threads.length x.n.toNat (meant R i (usesN x.items)) else R1
def stF (c : Cd) (R R1 : List (List Nat)) (i : Nat) (x : Ins) : List (List Nat):=if fldB c x = true then brF c x (gR R i x.src.toNat) (meant R i (usesN x.items)) R1 c.sites.length else R1

theorem dst_row (g : GoodP c) (hb : c.threads[i]? = some b) (hx : b.code[k]? = some x) (hd : dstB b x = true) (h : Mdw c R R1) : x.dst.toNat < (R1.getD i []).length:=by
 obtain ⟨-,-,hD⟩:=dst_cases g hb hx hd
 obtain ⟨d,hdd,hdl⟩:=(ins_facts g hb hx).d hD
 rw [h.row,shape_slots c hb,hdd,Int.toNat_natCast]
 exact hdl
theorem glo_row (g : GoodP c) (hb : c.threads[i]? = some b) (hx : b.code[k]? = some x) (hd : x.op = 5) (h : Mdw c R R1) : x.n.toNat < (R1.getD c.threads.length []).length:=by
 obtain ⟨d,hdd,hdl⟩:=(ins_facts g hb hx).g (.inr hd)
 rw [h.row,shape_globs,hdd,Int.toNat_natCast]
 exact hdl
theorem fld_row (g : GoodP c) (hb : c.threads[i]? = some b) (hx : b.code[k]? = some x) (hd : x.op = 6) (h : Mdw c R R1) {j : Nat} (hj : j < c.sites.length) (hr : (c.sites.getD j Ste.z).rc = x.rc) : x.n.toNat < (R1.getD (c.threads.length + 1 + j) []).length:=by
 obtain ⟨r,n,e1,e2,e3,e4⟩:=(ins_facts g hb hx).f (.inr hd)
 obtain ⟨s,hs⟩ : ∃ s,c.sites[j]? = some s:=⟨c.sites[j],by simp [hj]⟩
 rw [show c.sites.getD j Ste.z = s by simp [List.getD,hs],e1] at hr
 rw [h.row,shape_site c hs,e3,Int.toNat_natCast]
 unfold fldN
 rw [hr,if_neg (by omega),Int.toNat_natCast]
 exact e4
theorem glo_op {c : Cd} {x : Ins} (h : gloB c x = true) : x.op = 5∧meansL (globAt c x) = true:=by
 unfold gloB at h
 simpa using h
theorem fld_op {c : Cd} {x : Ins} (h : fldB c x = true) : x.op = 6∧meansL (fieldAt c x) = true:=by
 unfold fldB at h
 simpa using h

theorem Mdw.stD (g : GoodP c) (hb : c.threads[i]? = some b) (hx : b.code[k]? = some x) (h : Mdw c R R1) : Mdw c R (stD c R R1 i b x):=by
 unfold Go.Proofs.YtkdpcaoocmbbhaaDoor.stD
 split
 ·rename_i hd
  exact h.bring (dst_row g hb hx hd h) (fun T h1 h2 h3=>brM_sub g hb hx hd h3 (h2 i b hb k x hx))
 ·exact h
theorem Mdw.stG (g : GoodP c) (hb : c.threads[i]? = some b) (hx : b.code[k]? = some x) (h : Mdw c R R1) : Mdw c R (stG c R R1 i x):=by
 unfold Go.Proofs.YtkdpcaoocmbbhaaDoor.stG
 split
 ·rename_i hd
  obtain ⟨ho,hm⟩:=glo_op hd
  exact h.bring (glo_row g hb hx ho h) (fun T h1 h2 h3=>(meant_mono h3 i _).trans ((h2 i b hb k x hx).o5 ho hm))
 ·exact h
theorem Mdw.brF (g : GoodP c) (hb : c.threads[i]? = some b) (hx : b.code[k]? = some x) (ho : x.op = 6) (hm : meansL (fieldAt c x) = true) (h : Mdw c R R1) : ∀ j,j≤c.sites.length→Mdw c R (brF c x (gR R i x.src.toNat) (meant R i (usesN x.items)) R1 j)
 | 0,_=>h
 | j + 1,hj=>by
  have ih:=Mdw.brF g hb hx ho hm h j (by omega)
  unfold Go.Proofs.YtkdpcaoocmbbhaaDoor.brF
  split
  ·rename_i hq
   exact ih.bring (fld_row g hb hx ho ih (by omega) hq.2) (fun T h1 h2 h3=>(meant_mono h3 i _).trans ((h2 i b hb k x hx).o6 ho hm j (by omega) (h3 _ _ _ hq.1) hq.2))
  ·exact ih
theorem Mdw.stF (g : GoodP c) (hb : c.threads[i]? = some b) (hx : b.code[k]? = some x) (h : Mdw c R R1) : Mdw c R (stF c R R1 i x):=by
 unfold Go.Proofs.YtkdpcaoocmbbhaaDoor.stF
 split
 ·rename_i hd
  obtain ⟨ho,hm⟩:=fld_op hd
  exact Mdw.brF g hb hx ho hm h _ (Nat.le_refl _)
 ·exact h

theorem brF_le (g : GoodP c) (hb : c.threads[i]? = some b) (hx : b.code[k]? = some x) (ho : x.op = 6) (hm : meansL (fieldAt c x) = true) (h : Mdw c R R1) {j : Nat} (hj : j < c.sites.length) : LeR (brF c x (gR R i x.src.toNat) (meant R i (usesN x.items)) R1 j) (brF c x (gR R i x.src.toNat) (meant R i (usesN x.items)) R1 (j + 1)):=by
 have ih:=Mdw.brF g hb hx ho hm h j (by omega)
 show LeR _ (if _ then _ else _)
 split
 ·rename_i hq
  exact le_bring (fld_row g hb hx ho ih hj hq.2)
 ·exact LeR.refl _
theorem brF_from (g : GoodP c) (hb : c.threads[i]? = some b) (hx : b.code[k]? = some x) (ho : x.op = 6) (hm : meansL (fieldAt c x) = true) (h : Mdw c R R1) : ∀ j,j≤c.sites.length→LeR R1 (brF c x (gR R i x.src.toNat) (meant R i (usesN x.items)) R1 j)
 | 0,_=>LeR.refl _
 | j + 1,hj=>(brF_from g hb hx ho hm h j (by omega)).trans (brF_le g hb hx ho hm h (by omega))
theorem brF_to (g : GoodP c) (hb : c.threads[i]? = some b) (hx : b.code[k]? = some x) (ho : x.op = 6) (hm : meansL (fieldAt c x) = true) (h : Mdw c R R1) (j : Nat) : ∀ d,j + d≤c.sites.length→LeR (brF c x (gR R i x.src.toNat) (meant R i (usesN x.items)) R1 j) (brF c x (gR R i x.src.toNat) (meant R i (usesN x.items)) R1 (j + d))
 | 0,_=>LeR.refl _
 | d + 1,hd=>(brF_to g hb hx ho hm h j d (by omega)).trans (brF_le g hb hx ho hm h (by omega))

theorem le_stD (g : GoodP c) (hb : c.threads[i]? = some b) (hx : b.code[k]? = some x) (h : Mdw c R R1) : LeR R1 (stD c R R1 i b x):=by
 unfold Go.Proofs.YtkdpcaoocmbbhaaDoor.stD
 split
 ·rename_i hd
  exact le_bring (dst_row g hb hx hd h)
 ·exact LeR.refl _
theorem le_stG (g : GoodP c) (hb : c.threads[i]? = some b) (hx : b.code[k]? = some x) (h : Mdw c R R1) : LeR R1 (stG c R R1 i x):=by
 unfold Go.Proofs.YtkdpcaoocmbbhaaDoor.stG
 split
 ·rename_i hd
  exact le_bring (glo_row g hb hx (glo_op hd).1 h)
 ·exact LeR.refl _
theorem le_stF (g : GoodP c) (hb : c.threads[i]? = some b) (hx : b.code[k]? = some x) (h : Mdw c R R1) : LeR R1 (stF c R R1 i x):=by
 unfold Go.Proofs.YtkdpcaoocmbbhaaDoor.stF
 split
 ·rename_i hd
  obtain ⟨ho,hm⟩:=fld_op hd
  exact brF_from g hb hx ho hm h _ (Nat.le_refl _)
 ·exact LeR.refl _

/-- All that an instruction does in a round. -/
def stI (c : Cd) (R R1 : List (List Nat)) (i : Nat) (b : Bd) (x : Ins) : List (List Nat):=stF c R (stG c R (stD c R R1 i b x) i x) i x
theorem Mdw.stI (g : GoodP c) (hb : c.threads[i]? = some b) (hx : b.code[k]? = some x) (h : Mdw c R R1) : Mdw c R (stI c R R1 i b x):=((h.stD g hb hx).stG g hb hx).stF g hb hx
/-- If nothing came of an instruction, it is done. -/
theorem stI_done (g : GoodP c) (hb : c.threads[i]? = some b) (hx : b.code[k]? = some x) (hL : Low c R) (h : Mdw c R R1) (e : stI c R R1 i b x = R) : R1 = R∧Cl c i b R x:=by
 have hD:=h.stD g hb hx
 have hG:=hD.stG g hb hx
 have l1:=le_stD g hb hx h
 have l2:=le_stG g hb hx hD
 have l3:=le_stF g hb hx hG
 unfold Go.Proofs.YtkdpcaoocmbbhaaDoor.stI at e
 have e3 : stG c R (stD c R R1 i b x) i x = R:=LeR.anti (hG.shape.trans hL.1.symm) (by rw [e] at l3;exact l3) hG.le
 have e2 : stD c R R1 i b x = R:=LeR.anti (hD.shape.trans hL.1.symm) (by rw [e3] at l2;exact l2) hD.le
 have e1 : R1 = R:=LeR.anti (h.shape.trans hL.1.symm) (by rw [e2] at l1;exact l1) h.le
 refine ⟨e1,?_⟩
 subst e1
 rw [e3] at e
 rw [e2] at e3
 by_cases q : tgtM c b x = true
 ·unfold tgtM at q
  split at q
  ·rename_i hD'
   have hd : dstB b x = true:=by unfold dstB;rw [hD',q];rfl
   unfold Go.Proofs.YtkdpcaoocmbbhaaDoor.stD at e2
   rw [if_pos hd] at e2
   exact brM_cl g hb hx hd (Sub.of_or_eq ((bring_eq (dst_row g hb hx hd h)).1 e2))
  ·split at q
   ·rename_i h5
    have h5' : x.op = 5:=by simpa using h5
    have hg : gloB c x = true:=by unfold gloB;rw [h5,q];rfl
    unfold Go.Proofs.YtkdpcaoocmbbhaaDoor.stG at e3
    rw [if_pos hg] at e3
    have:=Sub.of_or_eq ((bring_eq (glo_row g hb hx h5' h)).1 e3)
    exact ⟨fun e _=>by omega,fun e _=>by omega,fun e _=>by omega,fun _ _=>this,fun e _=>by omega,fun e _=>by omega⟩
   ·split at q
    ·rename_i h6
     have h6' : x.op = 6:=by simpa using h6
     have hg : fldB c x = true:=by unfold fldB;rw [h6,q];rfl
     unfold Go.Proofs.YtkdpcaoocmbbhaaDoor.stF at e
     rw [if_pos hg] at e
     refine ⟨fun e _=>by omega,fun e _=>by omega,fun e _=>by omega,fun e _=>by omega,fun _ _ j hj hbit hrc=>?_,fun e _=>by omega⟩
     have a1:=brF_from g hb hx h6' q h j (by omega)
     have a2:=brF_to g hb hx h6' q h j (c.sites.length - j) (by omega)
     have a3:=brF_to g hb hx h6' q h (j + 1) (c.sites.length - (j + 1)) (by omega)
     rw [show j + (c.sites.length - j) = c.sites.length by omega,e] at a2
     rw [show j + 1 + (c.sites.length - (j + 1)) = c.sites.length by omega,e] at a3
     have b1 : brF c x (gR R1 i x.src.toNat) (meant R1 i (usesN x.items)) R1 j = R1:=LeR.anti (brF_shp _ _ _ _ _ _) a2 a1
     have b2 : brF c x (gR R1 i x.src.toNat) (meant R1 i (usesN x.items)) R1 (j + 1) = R1:=LeR.anti (brF_shp _ _ _ _ _ _) a3 (brF_from g hb hx h6' q h (j + 1) (by omega))
     have b3 : (if (gR R1 i x.src.toNat).testBit j = true∧(c.sites.getD j Ste.z).rc = x.rc then bringR (brF c x (gR R1 i x.src.toNat) (meant R1 i (usesN x.items)) R1 j) (c.threads.length + 1 + j) x.n.toNat (meant R1 i (usesN x.items)) else brF c x (gR R1 i x.src.toNat) (meant R1 i (usesN x.items)) R1 j) = R1:=b2
     rw [if_pos ⟨hbit,hrc⟩,b1] at b3
     exact Sub.of_or_eq ((bring_eq (fld_row g hb hx h6' h hj hrc)).1 b3)
    ·cases q
 ·exact cl_none _ (by simpa using q)

/-- Where a round stands. -/
structure RI (c : Cd) (R : List (List Nat)) (i j : Nat) (R1 : List (List Nat)) : Prop where
 mid : Mdw c R R1
 cl : R1 = R→∀ (i' : Nat) (b' : Bd) (j' : Nat) (x' : Ins),c.threads[i']? = some b'→b'.code[j']? = some x'→(i' < i∨(i' = i∧j' < j))→Cl c i' b' R x'
theorem RI.start {c : Cd} {R : List (List Nat)} (hL : Low c R) : RI c R 0 0 R:=⟨Mdw.refl hL,fun _ i' b' j' x' _ _ h=>by omega⟩
theorem RI.step {j : Nat} (g : GoodP c) (hL : Low c R) (h : RI c R i j R1) (hb : c.threads[i]? = some b) (hx : b.code[j]? = some x) : RI c R i (j + 1) (stI c R R1 i b x):=by
 refine ⟨h.mid.stI g hb hx,fun e i' b' j' x' h1 h2 h3=>?_⟩
 obtain ⟨e1,hc⟩:=stI_done g hb hx hL h.mid e
 by_cases q : i' = i∧j' = j
 ·obtain ⟨rfl,rfl⟩:=q
  rw [hb] at h1;cases h1
  rw [hx] at h2;cases h2
  exact hc
 ·exact h.cl e1 i' b' j' x' h1 h2 (by omega)
theorem RI.turn (h : RI c R i b.code.length R1) (hb : c.threads[i]? = some b) : RI c R (i + 1) 0 R1 :=
 ⟨h.mid,fun e i' b' j' x' h1 h2 h3=>h.cl e i' b' j' x' h1 h2 (by
  by_cases q : i' = i
  ·subst q
   rw [hb] at h1;cases h1
   have:=(List.getElem?_eq_some_iff.1 h2).1
   exact .inr ⟨rfl,this⟩
  ·omega)⟩
theorem RI.ends (h : RI c R c.threads.length 0 R1) : R1 = R→Closed c R:=fun e i b hb j x hx=>h.cl e i b j x hb hx (.inl (List.getElem?_eq_some_iff.1 hb).1)
end
end Go.Proofs.YtkdpcaoocmbbhaaDoor
