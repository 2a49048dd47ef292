/- Al, Di, Dj -/
import Derived.Test.YtkdpcaoocmbbhaaDoorM11
import Derived.Test.YtkdpcaoocmbbhaaDoorAlive
/- The statements' own example: its least sets. -/
namespace Go.Proofs.YtkdpcaoocmbbhaaDoor
open Go.ChangeShapes Go.WideShapes Go.ChangeAt Go.RowKit Go.Deep
set_option linter.unusedVariables false
set_option linter.unusedSimpArgs false

theorem flat_rng {α : Type} {cells : α→List Value} {s : Nat} : ∀ (l : List α),(∀ x ∈ l,(cells x).length = s)→∀ (i : Nat) (x : α),l[i]? = some x→∀ (j : Nat) (u : Value),(cells x)[j]? = some u→(l.flatMap cells)[i * s + j]? = some u
 | [],_,i,x,h,_,_,_=>by simp at h
 | y :: l,hs,0,x,h,j,u,hu=>by
  obtain rfl : y = x:=by simpa using h
  have hj:=(List.getElem?_eq_some_iff.1 hu).1
  rw [List.flatMap_cons,List.getElem?_append_left (by omega)]
  rw [show 0 * s + j = j by omega]
  exact hu
 | y :: l,hs,i + 1,x,h,j,u,hu=>by
  have ih:=flat_rng l (fun z hz=>hs z (List.mem_cons_of_mem _ hz)) i x (by simpa using h) j u hu
  have hl:=hs y (List.mem_cons_self ..)
  rw [List.flatMap_cons,List.getElem?_append_right (by rw [hl,Nat.add_mul];omega),hl,← ih]
  congr 1
  rw [Nat.add_mul]
  omega
theorem RowOf.box {α : Type} {cells : α→List Value} {s : Nat} {ok : World→α→Prop} {w : World} {b : Nat} (l : List α) (hs : ∀ x ∈ l,(cells x).length = s) (h : BoxAt w b (l.flatMap cells)) (h0 : 0 < l.length) (hm : l.length≤maxLen) (ho : ∀ x ∈ l,ok w x) : RowOf cells s ok w (.slice (some ⟨b,0,none⟩) l.length l.length) l :=
 ⟨some ⟨b,0,none⟩,l.length,rfl,Nat.le_refl _,hm,(fun p hp _=>by cases hp;rfl),(fun e=>by cases e),fun i x hx=>⟨b,0,rfl,h.1,fun j u hu=>by
  have:=h.2 (i * s + j) u (flat_rng l hs i x hx j u hu)
  rw [show 0 + i * s + j = i * s + j by omega]
  exact this,ho x (List.mem_of_getElem? hx)⟩⟩

def q4 : Loc:=⟨4,0,false⟩
def m0 : Ins:=⟨15,0,0,0,0,0,[],nl,[],nl⟩
def m1 : Ins:=⟨8,0,0,0,0,0,[],nl,[],nl⟩
def m2 (b : Nat) : Ins:=⟨5,0,0,0,0,0,[⟨2,0,0⟩],rowV b 1,[],nl⟩
def m3 : Ins:=⟨2,1,0,0,0,0,[],nl,[],nl⟩
def m4 : Ins:=⟨16,0,0,0,0,0,[],nl,[],nl⟩
def cL (r g s b k t e q : Nat) : Cd:=⟨[⟨[],nl⟩],rowV r 1,[q4],rowV g 1,[⟨[q4,q4],rowV s 2,[m0,m1,m2 b,m3,m4,i17],rowV k 6,0⟩],rowV t 1,[⟨0,1,0⟩],rowV e 1,[⟨0,0,4⟩],rowV q 1⟩
def bL (s b k : Nat) : Bd:=⟨[q4,q4],rowV s 2,[m0,m1,m2 b,m3,m4,i17],rowV k 6,0⟩

section
variable (r g s b k t e q : Nat)
theorem insL0 : insOk (cL r g s b k t e q) 0 (bL s b k) 0 m0 = true:=rfl
theorem insL1 : insOk (cL r g s b k t e q) 0 (bL s b k) 1 m1 = true:=rfl
theorem insL2 : insOk (cL r g s b k t e q) 0 (bL s b k) 2 (m2 b) = true:=rfl
theorem insL3 : insOk (cL r g s b k t e q) 0 (bL s b k) 3 m3 = true:=rfl
theorem insL4 : insOk (cL r g s b k t e q) 0 (bL s b k) 4 m4 = true:=rfl
theorem insL5 : insOk (cL r g s b k t e q) 0 (bL s b k) 5 i17 = true:=rfl
theorem codeL {j : Nat} {x : Ins} (h : (bL s b k).code[j]? = some x) : (j = 0∧x = m0)∨(j = 1∧x = m1)∨(j = 2∧x = m2 b)∨(j = 3∧x = m3)∨(j = 4∧x = m4)∨(j = 5∧x = i17):=by
 match j with
 | 0=>simp [bL] at h;exact .inl ⟨rfl,h.symm⟩
 | 1=>simp [bL] at h;exact .inr (.inl ⟨rfl,h.symm⟩)
 | 2=>simp [bL] at h;exact .inr (.inr (.inl ⟨rfl,h.symm⟩))
 | 3=>simp [bL] at h;exact .inr (.inr (.inr (.inl ⟨rfl,h.symm⟩)))
 | 4=>simp [bL] at h;exact .inr (.inr (.inr (.inr (.inl ⟨rfl,h.symm⟩))))
 | 5=>simp [bL] at h;exact .inr (.inr (.inr (.inr (.inr ⟨rfl,h.symm⟩))))
 | n + 6=>simp [bL] at h
theorem thsL {i : Nat} {x : Bd} (h : (cL r g s b k t e q).threads[i]? = some x) : i = 0∧x = bL s b k:=one_get h
theorem slotsL {j : Nat} {l : Loc} (h : (bL s b k).slots[j]? = some l) : l = q4:=by
 match j with
 | 0=>simp [bL] at h;exact h.symm
 | 1=>simp [bL] at h;exact h.symm
 | n + 2=>simp [bL] at h
theorem goodL : GoodP (cL r g s b k t e q):=by
 refine ⟨by simp [cL],by simp [cL],by simp [cL],by simp [cL],by simp [cL],?_,?_,?_,?_,?_,?_,?_⟩
 ·intro i x hx
  obtain ⟨rfl,rfl⟩:=one_get hx
  simp
 ·intro i x hx
  obtain ⟨rfl,rfl⟩:=one_get hx
  rfl
 ·intro i x hx j l hl
  obtain ⟨rfl,rfl⟩:=one_get hx
  simp at hl
 ·intro i x hx j l hl
  obtain ⟨rfl,rfl⟩:=thsL r g s b k t e q hx
  obtain rfl:=slotsL s b k hl
  rfl
 ·intro i x hx
  obtain ⟨rfl,rfl⟩:=one_get hx
  exact ⟨⟨rfl,rfl,rfl,rfl,by decide⟩,fun k o hk _=>by omega⟩
 ·intro i x hx
  obtain ⟨rfl,rfl⟩:=one_get hx
  exact ⟨.inl rfl,rfl⟩
 ·intro i x hx
  obtain ⟨rfl,rfl⟩:=thsL r g s b k t e q hx
  refine ⟨by simp [bL],by simp [bL],by simp [bL],by simp [bL],by simp [bL],fun j y hy=>?_⟩
  rcases codeL s b k hy with ⟨rfl,rfl⟩ | ⟨rfl,rfl⟩ | ⟨rfl,rfl⟩ | ⟨rfl,rfl⟩ | ⟨rfl,rfl⟩ | ⟨rfl,rfl⟩
  ·exact insL0 r g s b k t e q
  ·exact insL1 r g s b k t e q
  ·exact insL2 r g s b k t e q
  ·exact insL3 r g s b k t e q
  ·exact insL4 r g s b k t e q
  ·exact insL5 r g s b k t e q
theorem smallL : SmallP (cL r g s b k t e q):=by
 refine ⟨by simp [cL],by simp [cL],by simp [cL],by simp [cL],by simp [cL],?_,?_,?_,?_⟩
 ·intro i x hx;obtain ⟨rfl,rfl⟩:=one_get hx;simp
 ·intro i x hx;obtain ⟨rfl,rfl⟩:=thsL r g s b k t e q hx;simp [bL]
 ·intro i x hx;obtain ⟨rfl,rfl⟩:=thsL r g s b k t e q hx;simp [bL]
 ·intro i x hx j y hy
  obtain ⟨rfl,rfl⟩:=thsL r g s b k t e q hx
  rcases codeL s b k hy with ⟨rfl,rfl⟩ | ⟨rfl,rfl⟩ | ⟨rfl,rfl⟩ | ⟨rfl,rfl⟩ | ⟨rfl,rfl⟩ | ⟨rfl,rfl⟩ <;> simp [m0,m1,m2,m3,m4,i17]

/-- The least sets. -/
def setsL : List (List Nat):=[[1,1],[1],[]]
theorem sub_one {a : Nat} (h : a.testBit 0 = true) : Sub 1 a:=fun k hk=>by
 match k with
 | 0=>exact h
 | n + 1=>simp [Nat.testBit_succ] at hk
theorem leastL : Least (cL r g s b k t e q) setsL:=by
 refine ⟨⟨rfl,fun T hT hC=>?_⟩,?_⟩
 ·have c1:=(hC 0 (bL s b k) rfl 1 m1 rfl).o8 (.inl rfl) rfl
  have c2:=(hC 0 (bL s b k) rfl 2 (m2 b) rfl).o5 rfl rfl
  have c3:=(hC 0 (bL s b k) rfl 3 m3 rfl).o2 rfl rfl
  have d1 : (gR T 0 0).testBit 0 = true:=c1
  have d2 : (gR T 1 0).testBit 0 = true:=c2 0 (by
   rw [meant_bit]
   exact ⟨0,(by decide : 0 ∈ usesN [⟨2,0,0⟩]),d1⟩)
  have d3 : (gR T 0 1).testBit 0 = true:=c3 0 d2
  intro i j
  match i,j with
  | 0,0=>exact sub_one d1
  | 0,1=>exact sub_one d3
  | 0,n + 2=>exact Sub.zero _
  | 1,0=>exact sub_one d2
  | 1,n + 1=>exact Sub.zero _
  | 2,j=>exact Sub.zero _
  | n + 3,j=>exact Sub.zero _
 ·intro i x hx j y hy
  obtain ⟨rfl,rfl⟩:=thsL r g s b k t e q hx
  rcases codeL s b k hy with ⟨rfl,rfl⟩ | ⟨rfl,rfl⟩ | ⟨rfl,rfl⟩ | ⟨rfl,rfl⟩ | ⟨rfl,rfl⟩ | ⟨rfl,rfl⟩
  ·exact cl_none _ rfl
  ·exact ⟨fun h=>absurd h (by decide),fun h=>absurd h (by decide),fun h=>absurd h (by decide),fun h=>absurd h (by decide),fun h=>absurd h (by decide),fun _ _=>rfl⟩
  ·exact ⟨fun h=>absurd h (by simp [m2]),fun h=>absurd h (by simp [m2]),fun h=>absurd h (by simp [m2]),fun _ _=>Sub.refl 1,fun h=>absurd h (by simp [m2]),fun h=>absurd h (by simp [m2])⟩
  ·exact ⟨fun h=>absurd h (by decide),fun _ _=>Sub.refl 1,fun h=>absurd h (by decide),fun h=>absurd h (by decide),fun h=>absurd h (by decide),fun h=>absurd h (by decide)⟩
  ·exact cl_none _ rfl
  ·exact cl_none _ rfl

theorem q4ok (w : World) : q4.okW w:=⟨(⟨by decide,by decide⟩ : I64 4),i64z⟩
theorem okL {w : World} (hr : BoxAt w r [nl]) (hg : BoxAt w g q4.cells) (hs : BoxAt w s ([q4,q4].flatMap Loc.cells)) (hb : BoxAt w b [.int .i64 2,.int .i64 0,.int .u64 0]) (hk : BoxAt w k ([m0,m1,m2 b,m3,m4,i17].flatMap Ins.cells)) (ht : BoxAt w t [rowV s 2,rowV k 6,.int .i64 0]) (he : BoxAt w e [.int .i64 0,.int .i64 1,.int .i64 0]) (hq : BoxAt w q [.int .i64 0,.int .i64 0,.int .i64 4]) : (cL r g s b k t e q).okW w:=by
 have n0 : I64 0:=i64z
 have N : ∀ a d : Int,I64 a→I64 d→(⟨a,d,0,0,0,0,[],nl,[],nl⟩ : Ins).okW w:=fun a d ha hd=>⟨⟨ha,hd,n0,n0,n0,n0⟩,RowOf.nil _ _ _ _,RowOf.nil _ _ _ _⟩
 have nu : ∀ a : Int,0≤a→a≤20→I64 a:=fun a h1 h2=>⟨by omega,by omega⟩
 refine ⟨RowOf.one (cells:=Rl.cells) (ok:=Rl.okW) (x:=⟨[],nl⟩) hr (RowOf.nil _ _ _ _),RowOf.one (cells:=Loc.cells) (ok:=Loc.okW) (x:=q4) hg (q4ok w),RowOf.one (cells:=Bd.cells) (ok:=Bd.okW) (x:=bL s b k) ht ⟨n0,?_,?_⟩,RowOf.one (cells:=Ste.cells) (ok:=Ste.okW) (x:=⟨0,1,0⟩) he ⟨n0,nu 1 (by decide) (by decide),n0⟩,RowOf.one (cells:=Sec.cells) (ok:=Sec.okW) (x:=⟨0,0,4⟩) hq ⟨n0,n0,nu 4 (by decide) (by decide)⟩⟩
 ·exact RowOf.box [q4,q4] (fun x hx=>rfl) hs (by decide) (by decide) (fun x hx=>by
   have : x = q4:=by simpa using hx
   rw [this];exact q4ok w)
 ·refine RowOf.box [m0,m1,m2 b,m3,m4,i17] (fun x hx=>rfl) hk (by simp) (by simp [maxLen]) (fun x hx=>?_)
  have : x = m0∨x = m1∨x = m2 b∨x = m3∨x = m4∨x = i17:=by simpa using hx
  rcases this with rfl | rfl | rfl | rfl | rfl | rfl
  ·exact N 15 0 (nu _ (by decide) (by decide)) n0
  ·exact N 8 0 (nu _ (by decide) (by decide)) n0
  ·exact ⟨⟨nu 5 (by decide) (by decide),n0,n0,n0,n0,n0⟩,RowOf.one (cells:=Itm.cells) (ok:=Itm.okW) (x:=⟨2,0,0⟩) hb ((⟨by decide,by decide,by decide,by decide,by decide⟩ : Itm.ok ⟨2,0,0⟩)),RowOf.nil _ _ _ _⟩
  ·exact N 2 1 (nu _ (by decide) (by decide)) (nu _ (by decide) (by decide))
  ·exact N 16 0 (nu _ (by decide) (by decide)) n0
  ·exact N 17 0 (nu _ (by decide) (by decide)) n0
end

/-! The example's memory. -/
def lw1 (w : World) : World:=World.alloc (w) (.cells #[nl] 23)
def lw2 (w : World) : World:=World.alloc (lw1 w) (.cells #[.int .i64 4,.int .i64 0,.bool false] 56)
def lw3 (w : World) : World:=World.alloc (lw2 w) (.cells #[.int .i64 4,.int .i64 0,.bool false,.int .i64 4,.int .i64 0,.bool false] 56)
def lw4 (w : World) : World:=World.alloc (lw3 w) (.cells #[.int .i64 2,.int .i64 0,.int .u64 0] 52)
def lw5 (w : World) : World:=World.alloc (lw4 w) (.cells ([m0,m1,m2 (w.heap.size + 1 + 1 + 1),m3,m4,i17].flatMap Ins.cells).toArray 50)
def lw6 (w : World) : World:=World.alloc (lw5 w) (.cells #[rowV (w.heap.size + 1 + 1) 2,rowV (w.heap.size + 1 + 1 + 1 + 1) 6,.int .i64 0] 40)
def lw7 (w : World) : World:=World.alloc (lw6 w) (.cells #[.int .i64 0,.int .i64 1,.int .i64 0] 43)
def lw8 (w : World) : World:=World.alloc (lw7 w) (.cells #[.int .i64 0,.int .i64 0,.int .i64 4] 58)
def lw9 (w : World) : World:=World.alloc (lw8 w) (.cells #[rowV (w.heap.size) 1,rowV (w.heap.size + 1) 1,rowV (w.heap.size + 1 + 1 + 1 + 1 + 1) 1,rowV (w.heap.size + 1 + 1 + 1 + 1 + 1 + 1) 1,rowV (w.heap.size + 1 + 1 + 1 + 1 + 1 + 1 + 1) 1] 28)
theorem ls1 (w : World) : (lw1 w).heap.size = w.heap.size + 1:=(World.size_alloc _ _).trans (by rfl)
theorem ls2 (w : World) : (lw2 w).heap.size = w.heap.size + 1 + 1:=(World.size_alloc _ _).trans (by rw [ls1])
theorem ls3 (w : World) : (lw3 w).heap.size = w.heap.size + 1 + 1 + 1:=(World.size_alloc _ _).trans (by rw [ls2])
theorem ls4 (w : World) : (lw4 w).heap.size = w.heap.size + 1 + 1 + 1 + 1:=(World.size_alloc _ _).trans (by rw [ls3])
theorem ls5 (w : World) : (lw5 w).heap.size = w.heap.size + 1 + 1 + 1 + 1 + 1:=(World.size_alloc _ _).trans (by rw [ls4])
theorem ls6 (w : World) : (lw6 w).heap.size = w.heap.size + 1 + 1 + 1 + 1 + 1 + 1:=(World.size_alloc _ _).trans (by rw [ls5])
theorem ls7 (w : World) : (lw7 w).heap.size = w.heap.size + 1 + 1 + 1 + 1 + 1 + 1 + 1:=(World.size_alloc _ _).trans (by rw [ls6])
theorem ls8 (w : World) : (lw8 w).heap.size = w.heap.size + 1 + 1 + 1 + 1 + 1 + 1 + 1 + 1:=(World.size_alloc _ _).trans (by rw [ls7])
theorem ls9 (w : World) : (lw9 w).heap.size = w.heap.size + 1 + 1 + 1 + 1 + 1 + 1 + 1 + 1 + 1:=(World.size_alloc _ _).trans (by rw [ls8])
def exL (w : World) : Cd:=cL (w.heap.size) (w.heap.size + 1) (w.heap.size + 1 + 1) (w.heap.size + 1 + 1 + 1) (w.heap.size + 1 + 1 + 1 + 1) (w.heap.size + 1 + 1 + 1 + 1 + 1) (w.heap.size + 1 + 1 + 1 + 1 + 1 + 1) (w.heap.size + 1 + 1 + 1 + 1 + 1 + 1 + 1)
theorem lx0 (w : World) : BoxAt (lw9 w) (w.heap.size) [nl]:=by
 have h1 : BoxAt (lw1 w) _ [nl]:=BoxAt.new (w) #[nl] 23
 have h2 : BoxAt (lw2 w) _ [nl]:=h1.past _
 have h3 : BoxAt (lw3 w) _ [nl]:=h2.past _
 have h4 : BoxAt (lw4 w) _ [nl]:=h3.past _
 have h5 : BoxAt (lw5 w) _ [nl]:=h4.past _
 have h6 : BoxAt (lw6 w) _ [nl]:=h5.past _
 have h7 : BoxAt (lw7 w) _ [nl]:=h6.past _
 have h8 : BoxAt (lw8 w) _ [nl]:=h7.past _
 have h9 : BoxAt (lw9 w) _ [nl]:=h8.past _
 exact h9
theorem lx1 (w : World) : BoxAt (lw9 w) (w.heap.size + 1) [.int .i64 4,.int .i64 0,.bool false]:=by
 have h2 : BoxAt (lw2 w) _ [.int .i64 4,.int .i64 0,.bool false]:=BoxAt.new (lw1 w) #[.int .i64 4,.int .i64 0,.bool false] 56
 rw [ls1] at h2
 have h3 : BoxAt (lw3 w) _ [.int .i64 4,.int .i64 0,.bool false]:=h2.past _
 have h4 : BoxAt (lw4 w) _ [.int .i64 4,.int .i64 0,.bool false]:=h3.past _
 have h5 : BoxAt (lw5 w) _ [.int .i64 4,.int .i64 0,.bool false]:=h4.past _
 have h6 : BoxAt (lw6 w) _ [.int .i64 4,.int .i64 0,.bool false]:=h5.past _
 have h7 : BoxAt (lw7 w) _ [.int .i64 4,.int .i64 0,.bool false]:=h6.past _
 have h8 : BoxAt (lw8 w) _ [.int .i64 4,.int .i64 0,.bool false]:=h7.past _
 have h9 : BoxAt (lw9 w) _ [.int .i64 4,.int .i64 0,.bool false]:=h8.past _
 exact h9
theorem lx2 (w : World) : BoxAt (lw9 w) (w.heap.size + 1 + 1) [.int .i64 4,.int .i64 0,.bool false,.int .i64 4,.int .i64 0,.bool false]:=by
 have h3 : BoxAt (lw3 w) _ [.int .i64 4,.int .i64 0,.bool false,.int .i64 4,.int .i64 0,.bool false]:=BoxAt.new (lw2 w) #[.int .i64 4,.int .i64 0,.bool false,.int .i64 4,.int .i64 0,.bool false] 56
 rw [ls2] at h3
 have h4 : BoxAt (lw4 w) _ [.int .i64 4,.int .i64 0,.bool false,.int .i64 4,.int .i64 0,.bool false]:=h3.past _
 have h5 : BoxAt (lw5 w) _ [.int .i64 4,.int .i64 0,.bool false,.int .i64 4,.int .i64 0,.bool false]:=h4.past _
 have h6 : BoxAt (lw6 w) _ [.int .i64 4,.int .i64 0,.bool false,.int .i64 4,.int .i64 0,.bool false]:=h5.past _
 have h7 : BoxAt (lw7 w) _ [.int .i64 4,.int .i64 0,.bool false,.int .i64 4,.int .i64 0,.bool false]:=h6.past _
 have h8 : BoxAt (lw8 w) _ [.int .i64 4,.int .i64 0,.bool false,.int .i64 4,.int .i64 0,.bool false]:=h7.past _
 have h9 : BoxAt (lw9 w) _ [.int .i64 4,.int .i64 0,.bool false,.int .i64 4,.int .i64 0,.bool false]:=h8.past _
 exact h9
theorem lx3 (w : World) : BoxAt (lw9 w) (w.heap.size + 1 + 1 + 1) [.int .i64 2,.int .i64 0,.int .u64 0]:=by
 have h4 : BoxAt (lw4 w) _ [.int .i64 2,.int .i64 0,.int .u64 0]:=BoxAt.new (lw3 w) #[.int .i64 2,.int .i64 0,.int .u64 0] 52
 rw [ls3] at h4
 have h5 : BoxAt (lw5 w) _ [.int .i64 2,.int .i64 0,.int .u64 0]:=h4.past _
 have h6 : BoxAt (lw6 w) _ [.int .i64 2,.int .i64 0,.int .u64 0]:=h5.past _
 have h7 : BoxAt (lw7 w) _ [.int .i64 2,.int .i64 0,.int .u64 0]:=h6.past _
 have h8 : BoxAt (lw8 w) _ [.int .i64 2,.int .i64 0,.int .u64 0]:=h7.past _
 have h9 : BoxAt (lw9 w) _ [.int .i64 2,.int .i64 0,.int .u64 0]:=h8.past _
 exact h9
theorem lx4 (w : World) : BoxAt (lw9 w) (w.heap.size + 1 + 1 + 1 + 1) ([m0,m1,m2 (w.heap.size + 1 + 1 + 1),m3,m4,i17].flatMap Ins.cells):=by
 have h5 : BoxAt (lw5 w) _ ([m0,m1,m2 (w.heap.size + 1 + 1 + 1),m3,m4,i17].flatMap Ins.cells):=BoxAt.new (lw4 w) ([m0,m1,m2 (w.heap.size + 1 + 1 + 1),m3,m4,i17].flatMap Ins.cells).toArray 50
 rw [ls4] at h5
 have h6 : BoxAt (lw6 w) _ ([m0,m1,m2 (w.heap.size + 1 + 1 + 1),m3,m4,i17].flatMap Ins.cells):=h5.past _
 have h7 : BoxAt (lw7 w) _ ([m0,m1,m2 (w.heap.size + 1 + 1 + 1),m3,m4,i17].flatMap Ins.cells):=h6.past _
 have h8 : BoxAt (lw8 w) _ ([m0,m1,m2 (w.heap.size + 1 + 1 + 1),m3,m4,i17].flatMap Ins.cells):=h7.past _
 have h9 : BoxAt (lw9 w) _ ([m0,m1,m2 (w.heap.size + 1 + 1 + 1),m3,m4,i17].flatMap Ins.cells):=h8.past _
 exact h9
theorem lx5 (w : World) : BoxAt (lw9 w) (w.heap.size + 1 + 1 + 1 + 1 + 1) [rowV (w.heap.size + 1 + 1) 2,rowV (w.heap.size + 1 + 1 + 1 + 1) 6,.int .i64 0]:=by
 have h6 : BoxAt (lw6 w) _ [rowV (w.heap.size + 1 + 1) 2,rowV (w.heap.size + 1 + 1 + 1 + 1) 6,.int .i64 0]:=BoxAt.new (lw5 w) #[rowV (w.heap.size + 1 + 1) 2,rowV (w.heap.size + 1 + 1 + 1 + 1) 6,.int .i64 0] 40
 rw [ls5] at h6
 have h7 : BoxAt (lw7 w) _ [rowV (w.heap.size + 1 + 1) 2,rowV (w.heap.size + 1 + 1 + 1 + 1) 6,.int .i64 0]:=h6.past _
 have h8 : BoxAt (lw8 w) _ [rowV (w.heap.size + 1 + 1) 2,rowV (w.heap.size + 1 + 1 + 1 + 1) 6,.int .i64 0]:=h7.past _
 have h9 : BoxAt (lw9 w) _ [rowV (w.heap.size + 1 + 1) 2,rowV (w.heap.size + 1 + 1 + 1 + 1) 6,.int .i64 0]:=h8.past _
 exact h9
theorem lx6 (w : World) : BoxAt (lw9 w) (w.heap.size + 1 + 1 + 1 + 1 + 1 + 1) [.int .i64 0,.int .i64 1,.int .i64 0]:=by
 have h7 : BoxAt (lw7 w) _ [.int .i64 0,.int .i64 1,.int .i64 0]:=BoxAt.new (lw6 w) #[.int .i64 0,.int .i64 1,.int .i64 0] 43
 rw [ls6] at h7
 have h8 : BoxAt (lw8 w) _ [.int .i64 0,.int .i64 1,.int .i64 0]:=h7.past _
 have h9 : BoxAt (lw9 w) _ [.int .i64 0,.int .i64 1,.int .i64 0]:=h8.past _
 exact h9
theorem lx7 (w : World) : BoxAt (lw9 w) (w.heap.size + 1 + 1 + 1 + 1 + 1 + 1 + 1) [.int .i64 0,.int .i64 0,.int .i64 4]:=by
 have h8 : BoxAt (lw8 w) _ [.int .i64 0,.int .i64 0,.int .i64 4]:=BoxAt.new (lw7 w) #[.int .i64 0,.int .i64 0,.int .i64 4] 58
 rw [ls7] at h8
 have h9 : BoxAt (lw9 w) _ [.int .i64 0,.int .i64 0,.int .i64 4]:=h8.past _
 exact h9
theorem live_ok (w : World) : (exL w).okW (lw9 w)∧VarAt (lw9 w) (w.heap.size + 1 + 1 + 1 + 1 + 1 + 1 + 1 + 1) (exL w).cells 28∧Below w.heap.size w (lw9 w):=by
 have h0:=lx0 w
 have h1:=lx1 w
 have h2:=lx2 w
 have h3:=lx3 w
 have h4:=lx4 w
 have h5:=lx5 w
 have h6:=lx6 w
 have h7:=lx7 w
 have hv : VarAt (lw9 w) ((lw8 w).heap.size) (exL w).cells 28:=VarAt.new (lw8 w) (exL w).cells 28
 rw [ls8] at hv
 refine ⟨okL _ _ _ _ _ _ _ _ h0 h1 h2 h3 h4 h5 h6 h7,hv,?_⟩
 have b0:=Below.refl w.heap.size w
 have b1 : Below w.heap.size w (lw1 w):=b0.alloc (by exact Nat.le_refl _) _
 have b2 : Below w.heap.size w (lw2 w):=b1.alloc (by rw [ls1];omega) _
 have b3 : Below w.heap.size w (lw3 w):=b2.alloc (by rw [ls2];omega) _
 have b4 : Below w.heap.size w (lw4 w):=b3.alloc (by rw [ls3];omega) _
 have b5 : Below w.heap.size w (lw5 w):=b4.alloc (by rw [ls4];omega) _
 have b6 : Below w.heap.size w (lw6 w):=b5.alloc (by rw [ls5];omega) _
 have b7 : Below w.heap.size w (lw7 w):=b6.alloc (by rw [ls6];omega) _
 have b8 : Below w.heap.size w (lw8 w):=b7.alloc (by rw [ls7];omega) _
 have b9 : Below w.heap.size w (lw9 w):=b8.alloc (by rw [ls8];omega) _
 exact b9
theorem live_step {C : Code} {Q : Exit→Act→World→Prop} {a : Act} {w : World} (h : ∀ X,(exL w).okW X→VarAt X (w.heap.size + 1 + 1 + 1 + 1 + 1 + 1 + 1 + 1) (exL w).cells 28→Below w.heap.size w X→X.heap.size = w.heap.size + 1 + 1 + 1 + 1 + 1 + 1 + 1 + 1 + 1→C.wp Tryd.prog Q a X) : C.wp Tryd.prog Q a (lw9 w) :=
 h _ (live_ok w).1 (live_ok w).2.1 (live_ok w).2.2 (ls9 w)

/-- What the example's sets are, read again. -/
theorem SL3 {y z : World} {base top : Nat} {o : Obj} {u0 u1 u2 : Value} {V : Nat→Value} {B : Nat→Nat} (hs : SetsM y base top 1 1 u0 u1 u2 setsL V B) (hv : VarAt z y.heap.size [u0,u1,u2] 35) (ht : Turned y.heap.size (y.alloc o) z) :
  ∃ (oa oo cq : Nat) (ga : Nat) (gc : Nat) (qa cc : Nat),u0 = .slice (some ⟨oa,oo,none⟩) 1 cq∧u1 = .slice (some ⟨ga,0,none⟩) 1 gc∧z.cell? ⟨oa,oo,none⟩ = some (.slice (some ⟨qa,0,none⟩) 2 cc)∧z.cell? ⟨qa,0,none⟩ = some (.int .u64 1)∧z.cell? ⟨qa,1,none⟩ = some (.int .u64 1)∧z.cell? ⟨ga,0,none⟩ = some (.int .u64 1)∧True:=by
 have ba:=(Below.refl y.heap.size y).alloc (Nat.le_refl _) o
 have bz : Below y.heap.size y z:=ht.below ba (Nat.le_refl _)
 have hz:=hs.kept bz
 obtain ⟨ob,oo,oc,a,cp,e0,-,-,-,c0,-,h0⟩:=hz.rowT (i:=0) (by decide)
 obtain ⟨rfl,-,z0⟩:=h0 0 (by decide)
 obtain ⟨-,-,z1⟩:=h0 1 (by decide)
 obtain ⟨ag,cg,e1,h1⟩:=hz.rowGl
 obtain ⟨rfl,-,z2⟩:=h1 0 (by decide)
 exact ⟨ob,oo,oc,B 1,cg,B 0,cp,e0,e1,c0,z0,z1,z2,trivial⟩

set_option maxRecDepth 100000 in
set_option maxHeartbeats 2000000 in
theorem alive_any (w : World) (hTab : Tab w) : Calls Tryd.prog 8 #[] w fun e w'=>e = .returned (.bool true)∧Below w.heap.size w w':=by
 go_enter Tryd.func8,Tryd.ntmps8
 refine wp_seq_k (fun K hK=>?_)
 replace hK:=hid hK
 go_wp2_with fail
 refine hK.out _ _ ?_
 clear hK K
 refine wp_seq_k (fun K hK=>?_)
 replace hK:=hid hK
 go_wp2_with fail
 refine hK.out _ _ ?_
 clear hK K
 refine live_step (w:=w) ?_
 intro X ok vx bx sx
 have CS:=fun Y (hY : Below X.heap.size X Y)=>solve_any (exL w) Y (Cd.kept ok hY) (smallL _ _ _ _ _ _ _ _) ((hTab.below bx hTab.lt).kept hY)
 replace CS:=hid CS
 have G:=hid (goodL w.heap.size (w.heap.size + 1) (w.heap.size + 1 + 1) (w.heap.size + 1 + 1 + 1) (w.heap.size + 1 + 1 + 1 + 1) (w.heap.size + 1 + 1 + 1 + 1 + 1) (w.heap.size + 1 + 1 + 1 + 1 + 1 + 1) (w.heap.size + 1 + 1 + 1 + 1 + 1 + 1 + 1))
 have L:=hid (leastL w.heap.size (w.heap.size + 1) (w.heap.size + 1 + 1) (w.heap.size + 1 + 1 + 1) (w.heap.size + 1 + 1 + 1 + 1) (w.heap.size + 1 + 1 + 1 + 1 + 1) (w.heap.size + 1 + 1 + 1 + 1 + 1 + 1) (w.heap.size + 1 + 1 + 1 + 1 + 1 + 1 + 1))
 obtain ⟨y0,y1,y2,y3,y4⟩:=cells5 vx
 have BX:=hid bx
 replace hTab:=hid hTab
 clear ok vx bx
 go_wp2_with (first
  | (go_at_call 11;refine Calls.mono (CS.out _ (Below.refl _ _)) ?_;rintro _ y ⟨u0,u1,u2,rfl,bl,hg,-⟩;obtain ⟨R,V,B,sm,le⟩:=hg G.out;obtain rfl:=le.one L.out;have VS:=hid (VarAt.new y [.slice none 0 0,.slice none 0 0,.slice none 0 0] 35);have BL:=hid bl;have SM:=hid sm;obtain ⟨s0,n0,q0,s1,n1,q1,s2,n2,q2,rfl,rfl,rfl⟩:=sm.ones;clear sm bl le hg CS y0 y1 y2 y3 y4)
  | (refine wl_store_box 35 _ _ rfl rfl _ rfl [.slice s0 n0 q0,.slice s1 n1 q1,.slice s2 n2 q2] rfl size35 (ones3 rfl rfl rfl) _ _ VS.out rfl rfl ?_;intro z hv ht;have s:=SL3 SM.out hv ht;obtain ⟨oa,oo,cq,ga,gc,qa,cc,e0,e1,x0,x1,x2,x3,x4⟩:=s;cases e0;cases e1;have o0:=hv.cell 0 rfl;have o1:=hv.cell 1 rfl;have BZ:=hid (ht.below ((BX.out.trans (BL.out.mono BX.out.size)).alloc (Nat.le_trans BX.out.size BL.out.size) _) (Nat.le_trans BX.out.size BL.out.size));clear hv ht VS SM BL BX))
 go_ret
 exact ⟨rfl,BZ.out⟩
end Go.Proofs.YtkdpcaoocmbbhaaDoor
/- The document's Items. -/
namespace Go.Proofs.YtkdpcaoocmbbhaaDoor
open Go.ChangeShapes Go.WideShapes Go.ChangeAt Go.RowKit Go.Deep
set_option linter.unusedVariables false
set_option linter.unusedSimpArgs false

set_option maxRecDepth 100000 in
set_option maxHeartbeats 2000000 in
theorem items_any {W : World} {base top nT nS : Nat} {v0 v1 v2 : Value} {R : List (List Nat)} {V : Nat→Value} {B : Nat→Nat} (h : SetsM W base top nT nS v0 v1 v2 R V B) (hU : AllU R) (i : Nat) (hi : i < nT) (v : Value) (xs : List Itm) (hx : Items W v xs) (hl : xs.length≤1000)
  (hn : ∀ x ∈ xs,(x.op == 2) = true→0≤x.n∧x.n.toNat < (R.getD i []).length) :
  Calls Tryd.prog 31 #[.agg #[v0,v1,v2],.int .i64 (i : Int),v] W fun e W'=>e = .returned (.int .u64 ((meant R i (usesN xs) : Nat) : Int))∧Below W.heap.size W W':=by
 obtain ⟨a,cap,rfl,hr⟩:=RowOf.at hx
 obtain ⟨s0,n0,q0,s1,n1,q1,s2,n2,q2,f0,f1,f2⟩:=h.ones
 obtain ⟨oa,oc,e0,ho⟩:=h.o0
 obtain ⟨ob,ooff,e1,o2,o3,o4,o5,o6⟩:=ho i hi
 subst e1
 have HX:=hid hr
 have HT:=hid (fun j (x : Itm) h=>uses_take xs j x h)
 have HN:=hid hn
 have HA:=hid (List.take_length (l:=xs))
 have AT:=hid (fun s (hs : s < (R.getD i []).length)=>h.at (r:=i) (j:=s) hs)
 have LT:=hid (fun s (hs : s < (R.getD i []).length)=>(h.at (r:=i) (j:=s) hs))
 have U : Hid (∀ q,meant R i (usesN (xs.take q)) < 2 ^ 64):=hid (fun q=>meant_lt hU _ _)
 have U2 : Hid (AllU R):=hid hU
 rw [e0,f1,f2]
 have V0:=VarAt.new W [.slice (some ⟨ob,ooff,none⟩) nT oc,.slice s1 n1 q1,.slice s2 n2 q2] 35
 have B0:=hid ((Below.refl W.heap.size W).alloc (Nat.le_refl _) (.cells #[.slice (some ⟨ob,ooff,none⟩) nT oc,.slice s1 n1 q1,.slice s2 n2 q2] 35))
 have z0:=V0.cell 0 rfl
 have hii : (i : Int) < (nT : Int):=by omega
 clear hr hn hx h ho f0 f1 f2 e0 hU V0 LT
 generalize hln : xs.length = n at *
 replace hln:=hid hln
 go_enter Tryd.func31,Tryd.ntmps31
 go_wp2_with fail
 go_loopw [7,12] (fun t7 t wr=>∃ (j : Nat),t = .int .i64 j∧j≤n∧t7 = .int .u64 ((meant R i (usesN (xs.take j)) : Nat) : Int)∧Hid (Below W.heap.size W wr)∧wr.cell? ⟨W.heap.size,0,none⟩ = some (.slice (some ⟨ob,ooff,none⟩) nT oc)) (fun _ t=>fun _=>n - (intOf t).toNat)
 case atStart=>exact ⟨0,rfl,by omega,rfl,B0,z0⟩
 case round =>
  clear z0 B0
  obtain ⟨j,rfl,hj,rfl,Bl,c0⟩:=hrel
  by_cases hjn : j < n
  ·obtain ⟨x,b,off,hx,rfl,hb,hra,ok⟩:=HX.out j hjn
   have x0 : W.cell? ⟨b,off + j * 3,none⟩ = some (.int .i64 x.op):=hra 0 _ rfl
   have x1:=hra 1 _ rfl
   have x2:=hra 2 _ rfl
   rw [← Bl.out.cell hb] at x0 x1 x2
   have T:=HT.out j x hx
   have N:=HN.out x (List.mem_of_getElem? hx)
   have hk:=(Below.refl wr.heap.size wr).alloc (Nat.le_refl _) (.cells #[.int .i64 x.op,.int .i64 x.bin,.int .u64 x.n] 52)
   have B1:=hid (Bl.out.alloc Bl.out.size (.cells #[.int .i64 x.op,.int .i64 x.bin,.int .u64 x.n] 52))
   have d0:=(hk.cell (World.block_lt_of_cell? _ _ c0)).trans c0
   clear HX HT HN hx ok hra
   cases ho : (x.op == 2)
   ·have E2 : Hid (meant R i (usesN (xs.take (j + 1))) = meant R i (usesN (xs.take j))):=hid (by rw [T,ho];simp)
    generalize meant R i (usesN (xs.take j)) = z at *
    generalize hz : meant R i (usesN (xs.take (j + 1))) = z' at *
    replace hz:=hid hz
    clear hk T N AT U U2 Bl
    go_wp2
    go_roundw
    case rel=>exact ⟨j + 1,by go_num,by omega,by rw [hz.out,E2.out],B1,d0⟩
    case measure=>simp [intOf];omega
   ·obtain ⟨k0,k1⟩:=N ho
    obtain ⟨sn,hsn⟩:=Int.eq_ofNat_of_zero_le k0
    obtain ⟨xo,xb,xn⟩:=x
    simp only at *
    subst hsn
    rw [Int.toNat_natCast] at *
    obtain ⟨cp,w1,w2,-,-,w5⟩:=AT.out sn k1
    have E2 : Hid (meant R i (usesN (xs.take (j + 1))) = meant R i (usesN (xs.take j)) ||| gR R i sn):=hid (by rw [T,ho,if_pos rfl,meant_snoc])
    have u1:=U.out j
    have u2:=U2.out i sn
    have e1:=or64 u1 u2
    rw [w1] at o6
    have y6:=(B1.out.cell (p:=⟨ob,ooff + i,none⟩) o4).trans o6
    have y5:=(B1.out.cell (p:=⟨B i,sn,none⟩) w2.lt).trans w5
    rw [← E2.out] at e1
    generalize meant R i (usesN (xs.take j)) = z at *
    generalize hz : meant R i (usesN (xs.take (j + 1))) = z' at *
    replace hz:=hid hz
    generalize (R.getD i []).length = rl at *
    generalize gR R i sn = zz at *
    have hsl : (sn : Int) < (rl : Int):=by omega
    clear hk T N AT U U2 E2 w1 w2 o6 w5 u1 u2 c0 Bl
    go_wp2_with fail
    go_quiet (fail)
    go_wp2_with fail
    go_roundw
    case rel=>exact ⟨j + 1,by go_num,by omega,by rw [hz.out],hid (below_drewN B1.out _),d0⟩
    case measure=>simp [intOf];omega
  ·have e : j = n:=by omega
   subst e
   rw [HA.out]
   clear HX HT HN AT U U2
   go_wp2
   go_ret
   exact ⟨rfl,Bl.out⟩
end Go.Proofs.YtkdpcaoocmbbhaaDoor
/- The document's Brings. -/
namespace Go.Proofs.YtkdpcaoocmbbhaaDoor
open Go.ChangeShapes Go.WideShapes Go.ChangeAt Go.RowKit Go.Deep
set_option linter.unusedVariables false
set_option linter.unusedSimpArgs false

theorem ins_okw {c : Cd} {w : World} (hc : c.okW w) {i j : Nat} {t : Bd} {x : Ins} (ht : c.threads[i]? = some t) (hx : t.code[j]? = some x) : x.okW w:=by
 obtain ⟨ta,tp,te,htr⟩:=RowOf.at hc.2.2.1
 obtain ⟨t',tb,toff,ht',-,-,-,tok⟩:=htr i (List.getElem?_eq_some_iff.1 ht).1
 rw [ht] at ht'
 cases ht'
 obtain ⟨ac,pc,ec,hcr⟩:=RowOf.at tok.2.2
 obtain ⟨x',xb,xoff,hx',-,-,-,xok⟩:=hcr j (List.getElem?_eq_some_iff.1 hx).1
 rw [hx] at hx'
 cases hx'
 exact xok
theorem items_pre {c : Cd} {w : World} {R : List (List Nat)} (hc : c.okW w) (g : GoodP c) (hL : Low c R) {i j : Nat} {t : Bd} {x : Ins} (ht : c.threads[i]? = some t) (hx : t.code[j]? = some x) : x.items.length≤1000∧∀ y ∈ x.items,(y.op == 2) = true→0≤y.n∧y.n.toNat < (R.getD i []).length:=by
 have F:=ins_facts g ht hx
 obtain ⟨u1,u2⟩:=uses_ok F (ins_okw hc ht hx) (g.ths i t ht).1
 refine ⟨u1,fun y hy ho=>⟨(u2 y hy ho).1,?_⟩⟩
 rw [row_at hL,shape_slots c ht]
 cases hI : hasI x.op with
 | false=>rw [F.no hI] at hy;cases hy
 | true =>
  have:=can_slot ((good_can (F.it hI)).2 y hy) ho
  have:=(u2 y hy ho).1
  omega

/-- What loads of a field bring, of the sites ahead of one. -/
def brL (R : List (List Nat)) (r0 i src n : Nat) : Nat→Nat
 | 0=>0
 | k + 1=>if (gR R i src).testBit k = true then brL R r0 i src n k ||| gR R (r0 + k) n else brL R r0 i src n k
theorem brL_bit (R : List (List Nat)) (r0 i src n q : Nat) : ∀ k,(brL R r0 i src n k).testBit q = true↔∃ j,j < k∧(gR R i src).testBit j = true∧(gR R (r0 + j) n).testBit q = true
 | 0=>by simp [brL]
 | k + 1=>by
  unfold brL
  have ih:=brL_bit R r0 i src n q k
  constructor
  ·intro h
   split at h
   ·rename_i hb
    rw [Nat.testBit_or,Bool.or_eq_true] at h
    rcases h with h | h
    ·obtain ⟨j,h1,h2⟩:=ih.1 h
     exact ⟨j,by omega,h2⟩
    ·exact ⟨k,by omega,hb,h⟩
   ·obtain ⟨j,h1,h2⟩:=ih.1 h
    exact ⟨j,by omega,h2⟩
  ·rintro ⟨j,h1,h2,h3⟩
   by_cases e : j = k
   ·subst e
    rw [if_pos h2,Nat.testBit_or,h3]
    simp
   ·have:=ih.2 ⟨j,by omega,h2,h3⟩
    split
    ·rw [Nat.testBit_or,this];rfl
    ·exact this
theorem lt64_bits {a : Nat} (h : ∀ k,a.testBit k = true→k < 64) : a < 2 ^ 64:=lt_of_bits h
theorem bits_lt64 {a k : Nat} (h : a < 2 ^ 64) (hb : a.testBit k = true) : k < 64:=by
 apply Classical.byContradiction
 intro hk
 have : a < 2 ^ k:=Nat.lt_of_lt_of_le h (Nat.pow_le_pow_right (by decide) (by omega))
 rw [Nat.testBit_lt_two_pow this] at hb
 cases hb
theorem brL_lt {R : List (List Nat)} (hU : AllU R) (r0 i src n k : Nat) : brL R r0 i src n k < 2 ^ 64:=lt64_bits fun q hq=>by
 obtain ⟨j,_,_,h3⟩:=(brL_bit R r0 i src n q k).1 hq
 exact bits_lt64 (hU _ _) h3
def brM (c : Cd) (R : List (List Nat)) (i : Nat) (x : Ins) : Nat :=
 if x.op = 1 then meant R i (usesN x.items) else if x.op = 2 then gR R c.threads.length x.n.toNat else if x.op = 3 then brL R (c.threads.length + 1) i x.src.toNat x.n.toNat c.sites.length else 2 ^ x.n.toNat
theorem dst_cases {c : Cd} (g : GoodP c) {i k : Nat} {b : Bd} {x : Ins} (hb : c.threads[i]? = some b) (hx : b.code[k]? = some x) (hd : dstB b x = true) : (x.op = 1∨x.op = 2∨x.op = 3∨x.op = 8∨x.op = 9)∧meansL (slotOf b x) = true∧hasD x.op = true:=by
 unfold dstB at hd
 rw [Bool.and_eq_true] at hd
 refine ⟨?_,hd.2,hd.1⟩
 by_cases h : x.op = 4∨x.op = 10
 ·have:=op4_no g hb hx h
  rw [hd.2] at this
  cases this
 ·have:=hd.1
  simp only [hasD,Bool.or_eq_true,beq_iff_eq] at this
  omega
/-- What comes to a Dst: no more than must; and if it is there, the instruction is done. -/
theorem brM_sub {c : Cd} (g : GoodP c) {i k : Nat} {b : Bd} {x : Ins} (hb : c.threads[i]? = some b) (hx : b.code[k]? = some x) (hd : dstB b x = true) {R T : List (List Nat)} (hl : LeR R T) (hT : Cl c i b T x) : Sub (brM c R i x) (gR T i x.dst.toNat):=by
 obtain ⟨ho,hm,-⟩:=dst_cases g hb hx hd
 unfold brM
 rcases ho with e | e | e | e | e
 ·rw [if_pos e];exact (meant_mono hl i _).trans (hT.o1 e hm)
 ·rw [if_neg (by omega),if_pos e];exact (hl _ _).trans (hT.o2 e hm)
 ·rw [if_neg (by omega),if_neg (by omega),if_pos e]
  intro q hq
  obtain ⟨j,h1,h2,h3⟩:=(brL_bit _ _ _ _ _ _ _).1 hq
  exact hT.o3 e hm j h1 (hl _ _ _ h2) q (hl _ _ _ h3)
 ·rw [if_neg (by omega),if_neg (by omega),if_neg (by omega)]
  intro q hq
  rw [Nat.testBit_two_pow] at hq
  have : x.n.toNat = q:=by simpa using hq
  rw [← this]
  exact hT.o8 (.inl e) hm
 ·rw [if_neg (by omega),if_neg (by omega),if_neg (by omega)]
  intro q hq
  rw [Nat.testBit_two_pow] at hq
  have : x.n.toNat = q:=by simpa using hq
  rw [← this]
  exact hT.o8 (.inr e) hm
theorem brM_cl {c : Cd} (g : GoodP c) {i k : Nat} {b : Bd} {x : Ins} (hb : c.threads[i]? = some b) (hx : b.code[k]? = some x) (hd : dstB b x = true) {R : List (List Nat)} (hs : Sub (brM c R i x) (gR R i x.dst.toNat)) : Cl c i b R x:=by
 obtain ⟨ho,hm,-⟩:=dst_cases g hb hx hd
 unfold brM at hs
 refine ⟨fun e _=>?_,fun e _=>?_,fun e _ q hq hq2 z hz=>?_,fun e=>by omega,fun e=>by omega,fun e _=>?_⟩
 ·rw [if_pos e] at hs;exact hs
 ·rw [if_neg (by omega),if_pos e] at hs;exact hs
 ·rw [if_neg (by omega),if_neg (by omega),if_pos e] at hs
  exact hs z ((brL_bit _ _ _ _ _ _ _).2 ⟨q,hq,hq2,hz⟩)
 ·rw [if_neg (by omega),if_neg (by omega),if_neg (by omega)] at hs
  exact hs _ (by rw [Nat.testBit_two_pow];simp)
theorem brM_lt {c : Cd} (g : GoodP c) {i k : Nat} {b : Bd} {x : Ins} (hb : c.threads[i]? = some b) (hx : b.code[k]? = some x) (hd : dstB b x = true) {R : List (List Nat)} (hU : AllU R) (hS : c.sites.length≤64) : brM c R i x < 2 ^ 64:=by
 obtain ⟨ho,hm,-⟩:=dst_cases g hb hx hd
 have F:=ins_facts g hb hx
 unfold brM
 rcases ho with e | e | e | e | e
 ·rw [if_pos e];exact meant_lt hU _ _
 ·rw [if_neg (by omega),if_pos e];exact hU _ _
 ·rw [if_neg (by omega),if_neg (by omega),if_pos e];exact brL_lt hU _ _ _ _ _
 ·rw [if_neg (by omega),if_neg (by omega),if_neg (by omega)]
  obtain ⟨n,hn,hnl⟩:=F.m (.inl e)
  rw [hn,Int.toNat_natCast]
  exact Nat.pow_lt_pow_right (by decide) (by omega)
 ·rw [if_neg (by omega),if_neg (by omega),if_neg (by omega)]
  obtain ⟨n,hn,hnl⟩:=F.m (.inr e)
  rw [hn,Int.toNat_natCast]
  exact Nat.pow_lt_pow_right (by decide) (by omega)
end Go.Proofs.YtkdpcaoocmbbhaaDoor
