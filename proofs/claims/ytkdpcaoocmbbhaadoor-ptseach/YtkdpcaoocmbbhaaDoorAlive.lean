/- The laws' alive; Writes. -/
import Derived.Test.YtkdpcaoocmbbhaaDoorM07
namespace Go.Proofs.YtkdpcaoocmbbhaaDoor
open Go.ChangeShapes Go.WideShapes Go.ChangeAt Go.RowKit
set_option linter.unusedVariables false
set_option linter.unusedSimpArgs false

/-- Which slot an instruction gives a value. -/
def wrB (op dst : Int) : Int:=if hasD op then dst else -1

set_option maxHeartbeats 2000000 in
theorem writes_any (op dst src rc n tt : Int) (a7 : Option Addr) (n7 p7 : Nat) (a8 : Option Addr) (n8 p8 : Nat) (w : World) :
  Calls Tryd.prog 67 #[.agg #[.int .i64 op,.int .i64 dst,.int .i64 src,.int .i64 rc,.int .i64 n,.int .i64 tt,.slice a7 n7 p7,.slice a8 n8 p8]] w fun e w'=>e = .returned (.int .i64 (wrB op dst))∧Below w.heap.size w w':=by
 have B:=hid ((Below.refl w.heap.size w).alloc (Nat.le_refl _) (.cells #[.int .i64 op,.int .i64 dst,.int .i64 src,.int .i64 rc,.int .i64 n,.int .i64 tt,.slice a7 n7 p7,.slice a8 n8 p8] 50))
 go_enter Tryd.func67,Tryd.ntmps67
 go_wp2
 all_goals
  go_ret
  refine ⟨retI ?_,by first | exact B.out | exact (Below.refl _ _).alloc (Nat.le_refl _) _⟩
  first | (simp [wrB,hasD, *];done) | (simp only [beq_iff_eq,beq_eq_false_iff_ne,ne_eq] at *;subst_vars;rfl)

theorem RowOf.one {α : Type} {cells : α→List Value} {s : Nat} {ok : World→α→Prop} {w : World} {b : Nat} {x : α} (h : BoxAt w b (cells x)) (ho : ok w x) : RowOf cells s ok w (.slice (some ⟨b,0,none⟩) 1 1) [x] :=
 ⟨some ⟨b,0,none⟩,1,rfl,by simp,by decide,(fun p hp _=>by cases hp;rfl),(fun e=>by cases e),fun i y hy=>by
  cases i with
  | zero =>
   simp at hy;subst hy
   exact ⟨b,0,rfl,h.1,fun j u hu=>by have:=h.2 j u hu;simpa using this,ho⟩
  | succ i=>simp at hy⟩

theorem RowOf.two {α : Type} {cells : α→List Value} {s : Nat} {ok : World→α→Prop} {w : World} {b : Nat} {x y : α} (hs : (cells x).length = s) (h : BoxAt w b (cells x ++ cells y)) (hx : ok w x) (hy : ok w y) : RowOf cells s ok w (.slice (some ⟨b,0,none⟩) 2 2) [x,y] :=
 ⟨some ⟨b,0,none⟩,2,rfl,by simp,by decide,(fun p hp _=>by cases hp;rfl),(fun e=>by cases e),fun i z hz=>by
  match i with
  | 0 =>
   simp at hz;subst hz
   refine ⟨b,0,rfl,h.1,fun j u hu=>?_,hx⟩
   have:=h.2 j u (by rw [List.getElem?_append_left (List.getElem?_eq_some_iff.1 hu).1];exact hu)
   simpa using this
  | 1 =>
   simp at hz;subst hz
   refine ⟨b,0,rfl,h.1,fun j u hu=>?_,hy⟩
   have:=h.2 (s + j) u (by rw [List.getElem?_append_right (by omega),hs];simpa using hu)
   simpa using this
  | k + 2=>simp at hz⟩

def i17 : Ins:=⟨17,0,0,0,0,0,[],.slice none 0 0,[],.slice none 0 0⟩
def i2 : Ins:=⟨2,0,0,0,0,0,[],.slice none 0 0,[],.slice none 0 0⟩
def l1 : Loc:=⟨1,0,false⟩
def nl : Value:=.slice none 0 0
def rowV (b n : Nat) : Value:=.slice (some ⟨b,0,none⟩) n n
def cA (p q : Nat) : Cd:=⟨[],nl,[],nl,[⟨[],nl,[i17],rowV p 1,0⟩],rowV q 1,[],nl,[],nl⟩
def cB (g s p q : Nat) : Cd:=⟨[],nl,[l1],rowV g 1,[⟨[l1],rowV s 1,[i2,i17],rowV p 2,0⟩],rowV q 1,[],nl,[],nl⟩

theorem one_get {α : Type} {i : Nat} {x y : α} (h : [x][i]? = some y) : i = 0∧y = x:=by
 cases i with
 | zero=>simp at h;exact ⟨rfl,h.symm⟩
 | succ i=>simp at h

theorem i64z : I64 0:=⟨by decide,by decide⟩
theorem n2 : i2.nums:=⟨(⟨by decide,by decide⟩ : I64 2),i64z,i64z,i64z,i64z,i64z⟩
end Go.Proofs.YtkdpcaoocmbbhaaDoor
