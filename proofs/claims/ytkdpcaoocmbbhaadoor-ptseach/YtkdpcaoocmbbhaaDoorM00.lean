/- Bm, Cal, Dat, Cans, Rwi, Goods, RTakes -/
import Derived.Test.YtkdpcaoocmbbhaaDoorRows
import Derived.WalkKit
import Derived.ProofKit
import Derived.OpenShut
import Derived.WalkSpells
import Derived.WalkLawsBesides
import Derived.Below
import Derived.Deep.MidRow
import Derived.Deep.Slices
import Derived.Deep.Strs
import Derived.Lib.SmallJoins
/- Sets as numbers: their bits, one by one. Plain mathematics. -/
namespace Go.Proofs.YtkdpcaoocmbbhaaDoor
set_option linter.unusedVariables false

/-- The bits of a set from a place on, so many places. -/
def bitsF (s : Nat) : Nat→Nat→List Nat
 | _,0=>[]
 | i,n + 1=>if s.testBit i then i :: bitsF s (i + 1) n else bitsF s (i + 1) n
/-- The numbers of the bits that are 1, rising. -/
def bitsL (s : Nat) : List Nat:=bitsF s 0 64

theorem bitsF_yes {s i : Nat} (n : Nat) (h : s.testBit i = true) : bitsF s i (n + 1) = i :: bitsF s (i + 1) n:=by simp [bitsF,h]
theorem bitsF_no {s i : Nat} (n : Nat) (h : s.testBit i = false) : bitsF s i (n + 1) = bitsF s (i + 1) n:=by simp [bitsF,h]

theorem bitsF_same {s t : Nat} : ∀ (n i : Nat),(∀ j,i≤j→s.testBit j = t.testBit j)→bitsF s i n = bitsF t i n
 | 0,_,_=>rfl
 | n + 1,i,h=>by
  have h1:=h i (Nat.le_refl _)
  have h2:=bitsF_same n (i + 1) (fun j hj=>h j (by omega))
  cases hs : s.testBit i
  ·rw [bitsF_no n hs,bitsF_no n (h1 ▸ hs),h2]
  ·rw [bitsF_yes n hs,bitsF_yes n (h1 ▸ hs),h2]

theorem bitsF_skip {s : Nat} : ∀ (k i n : Nat),(∀ j,i≤j→j < i + k→s.testBit j = false)→bitsF s i (k + n) = bitsF s (i + k) n
 | 0,i,n,_=>by simp
 | k + 1,i,n,h=>by
  rw [show k + 1 + n = (k + n) + 1 by omega,bitsF_no _ (h i (Nat.le_refl _) (by omega)),bitsF_skip k (i + 1) n (fun j h1 h2=>h j (by omega) (by omega)),show i + 1 + k = i + (k + 1) by omega]

theorem mem_bitsF {s k : Nat} : ∀ (n i : Nat),k ∈ bitsF s i n↔i≤k∧k < i + n∧s.testBit k = true
 | 0,i=>by simp [bitsF];omega
 | n + 1,i=>by
  cases hs : s.testBit i
  ·rw [bitsF_no n hs,mem_bitsF n (i + 1)]
   constructor
   ·rintro ⟨h1,h2,h3⟩;exact ⟨by omega,by omega,h3⟩
   ·rintro ⟨h1,h2,h3⟩
    have : k ≠ i:=fun e=>by rw [e,hs] at h3;cases h3
    exact ⟨by omega,by omega,h3⟩
  ·rw [bitsF_yes n hs,List.mem_cons,mem_bitsF n (i + 1)]
   constructor
   ·rintro (rfl | ⟨h1,h2,h3⟩)
    ·exact ⟨by omega,by omega,hs⟩
    ·exact ⟨by omega,by omega,h3⟩
   ·rintro ⟨h1,h2,h3⟩
    by_cases e : k = i
    ·exact .inl e
    ·exact .inr ⟨by omega,by omega,h3⟩

theorem mem_bits {s k : Nat} : k ∈ bitsL s↔k < 64∧s.testBit k = true:=by
 unfold bitsL
 rw [mem_bitsF]
 simp

theorem bitsF_len (s : Nat) : ∀ (n i : Nat),(bitsF s i n).length≤n
 | 0,_=>by simp [bitsF]
 | n + 1,i=>by
  have:=bitsF_len s n (i + 1)
  cases hs : s.testBit i
  ·rw [bitsF_no n hs];omega
  ·rw [bitsF_yes n hs];simp;omega
theorem bits_len (s : Nat) : (bitsL s).length≤64:=bitsF_len s 64 0
theorem bits_zero : bitsL 0 = []:=by
 cases h : bitsL 0 with
 | nil=>rfl
 | cons a l =>
  have : a ∈ bitsL 0:=by rw [h];simp
  rw [mem_bits] at this
  simp at this

/-- A number's lowest bit. -/
theorem low_of : ∀ (x : Nat),x ≠ 0→∃ k m,x = 2 ^ (k + 1) * m + 2 ^ k:=fun x=>by
 induction x using Nat.strongRecOn with
 | _ x ih =>
  intro h0
  by_cases h : x % 2 = 1
  ·exact ⟨0,x / 2,by simp;omega⟩
  ·obtain ⟨k,m,e⟩:=ih (x / 2) (by omega) (by omega)
   refine ⟨k + 1,m,?_⟩
   have e1 : 2 ^ (k + 1 + 1) * m = 2 * (2 ^ (k + 1) * m):=by rw [Nat.pow_succ 2 (k + 1),Nat.mul_right_comm,Nat.mul_comm]
   have e2 : 2 ^ (k + 1) = 2 * 2 ^ k:=by rw [Nat.pow_succ 2 k,Nat.mul_comm]
   rw [e1]
   generalize 2 ^ (k + 1) * m = y at *
   omega

theorem low_bit {x k m : Nat} (e : x = 2 ^ (k + 1) * m + 2 ^ k) (i : Nat) : x.testBit i = if i < k then false else if i = k then true else m.testBit (i - (k + 1)):=by
 have hp : 2 ^ k < 2 ^ (k + 1):=Nat.pow_lt_pow_of_lt (by omega) (by omega)
 rw [e,Nat.testBit_two_pow_mul_add m hp i]
 by_cases h1 : i < k
 ·rw [if_pos (by omega),if_pos h1,Nat.testBit_two_pow];simp;omega
 ·by_cases h2 : i = k
  ·subst h2
   rw [if_pos (by omega),if_neg h1,if_pos rfl,Nat.testBit_two_pow];simp
  ·rw [if_neg (by omega),if_neg h1,if_neg h2]
theorem low_pred {x k m : Nat} (e : x = 2 ^ (k + 1) * m + 2 ^ k) (i : Nat) : (x - 1).testBit i = if i < k then true else if i = k then false else m.testBit (i - (k + 1)):=by
 have hp : 2 ^ k < 2 ^ (k + 1):=Nat.pow_lt_pow_of_lt (by omega) (by omega)
 have h0 : 0 < 2 ^ k:=Nat.two_pow_pos k
 rw [e,show 2 ^ (k + 1) * m + 2 ^ k - 1 = 2 ^ (k + 1) * m + (2 ^ k - 1) by omega,Nat.testBit_two_pow_mul_add m (by omega) i]
 by_cases h1 : i < k
 ·rw [if_pos (by omega),if_pos h1,Nat.testBit_two_pow_sub_one];simp [h1]
 ·by_cases h2 : i = k
  ·subst h2
   rw [if_pos (by omega),if_neg h1,if_pos rfl,Nat.testBit_two_pow_sub_one];simp
  ·rw [if_neg (by omega),if_neg h1,if_neg h2]

theorem low_and {x k m : Nat} (e : x = 2 ^ (k + 1) * m + 2 ^ k) (hx : x < 2 ^ 64) : x &&& (2 ^ 64 - x) = 2 ^ k:=by
 have h0 : 0 < 2 ^ k:=Nat.two_pow_pos k
 have h1 : 0 < x:=by omega
 apply Nat.eq_of_testBit_eq
 intro i
 have hy:=Nat.testBit_two_pow_sub_succ (x:=x - 1) (n:=64) (by omega) i
 rw [show x - 1 + 1 = x by omega] at hy
 rw [Nat.testBit_and,hy,low_bit e i,low_pred e i,Nat.testBit_two_pow]
 have hk : k < 64:=by
  have : 2 ^ k < 2 ^ 64:=by
   have : 2 ^ k≤x:=by rw [e];exact Nat.le_add_left _ _
   omega
  exact (Nat.pow_lt_pow_iff_right (by omega)).1 this
 by_cases a : i < k
 ·rw [if_pos a];simp;omega
 ·by_cases b : i = k
  ·subst b;simp [hk]
  ·rw [if_neg a,if_neg b]
   have : ¬ k = i:=fun q=>b q.symm
   simp [this]
   by_cases c : i < 64
   ·simp [b]
    intro p _ _
    exact p
   ·simp [c]

theorem low_lt {x k m : Nat} (e : x = 2 ^ (k + 1) * m + 2 ^ k) (hx : x < 2 ^ 64) : k < 64:=by
 have : 2 ^ k < 2 ^ 64:=by
  have : 2 ^ k≤x:=by rw [e];exact Nat.le_add_left _ _
  omega
 exact (Nat.pow_lt_pow_iff_right (by omega)).1 this

/-- The bits: the lowest one, and then those without it. -/
theorem bits_cons {x k m : Nat} (e : x = 2 ^ (k + 1) * m + 2 ^ k) (hx : x < 2 ^ 64) : bitsL x = k :: bitsL (x &&& (x - 1)):=by
 have hk:=low_lt e hx
 have h1 : bitsL x = bitsF x k (63 - k + 1):=by
  have:=bitsF_skip (s:=x) k 0 (63 - k + 1) (fun j _ hj=>by rw [low_bit e,if_pos (by omega)])
  rw [show k + (63 - k + 1) = 64 by omega,Nat.zero_add] at this
  exact this
 have h2 : bitsL (x &&& (x - 1)) = bitsF (x &&& (x - 1)) (k + 1) (63 - k):=by
  have:=bitsF_skip (s:=x &&& (x - 1)) (k + 1) 0 (63 - k) (fun j _ hj=>by
   rw [Nat.testBit_and,low_bit e,low_pred e]
   by_cases a : j < k
   ·simp [a]
   ·have : j = k:=by omega
    simp [this])
  rw [show k + 1 + (63 - k) = 64 by omega,Nat.zero_add] at this
  exact this
 rw [h1,bitsF_yes _ (by rw [low_bit e];simp),h2]
 congr 1
 refine bitsF_same _ _ fun j hj=>?_
 rw [Nat.testBit_and,low_bit e,low_pred e,if_neg (by omega),if_neg (by omega),if_neg (by omega),if_neg (by omega)]
 cases m.testBit (j - (k + 1)) <;> rfl

/-- The table's places. -/
def deB : List Nat:=[0,1,56,2,57,49,28,3,61,58,42,50,38,29,17,4,62,47,59,36,45,43,51,22,53,39,33,30,24,18,12,5,63,55,48,27,60,41,37,16,46,35,44,21,52,32,23,11,54,26,40,15,34,20,31,10,25,14,19,9,13,8,7,6]
theorem deB_at : ∀ k,k < 64→(2 ^ k * 285870213051353865 % 18446744073709551616) / 288230376151711744 < 64∧deB.getD ((2 ^ k * 285870213051353865 % 18446744073709551616) / 288230376151711744) 0 = k:=by decide
end Go.Proofs.YtkdpcaoocmbbhaaDoor
/- Layer 8 as plain mathematics: items, what each takes, which rows are expressions (from the left and from the right). No Go in it. -/
namespace Go.Proofs.YtkdpcaoocmbbhaaDoor
open Go.ChangeShapes Go.WideShapes Go.ChangeAt Go.RowKit
set_option linter.unusedVariables false

/-- An item. -/
structure Itm where
 op : Int
 bin : Int
 n : Int

def Itm.blank : Itm:=⟨0,0,0⟩

def Itm.ok (x : Itm) : Prop:=-9223372036854775808≤x.op∧x.op≤9223372036854775807∧-9223372036854775808≤x.bin∧x.bin≤9223372036854775807∧0≤x.n∧x.n≤18446744073709551615

/-- How many values an item takes. -/
def tk (op : Int) : Nat:=if op == 4 then 1 else if op == 5 then 1 else if op == 6 then 1 else if op == 7 then 1 else if op == 8 then 2 else if op == 9 then 2 else if op == 10 then 2 else 0

theorem tk_le (op : Int) : tk op≤2:=by unfold tk;split <;> (try omega);split <;> (try omega);split <;> (try omega);split <;> (try omega);split <;> (try omega);split <;> (try omega);split <;> omega

/-- Which Bin an item of two can have. -/
def canJ (op bin : Int) : Bool :=
 if op == 9 then decide (0≤bin) && (decide (bin≤8) && bin != 4)
 else if op == 10 then bin == 5 || bin == 6
 else decide (0≤bin) && decide (bin≤8)

/-- Can it be? -/
def can (s : Int) (x : Itm) : Bool :=
 if x.op == 1 then x.bin == 0
 else if x.op == 2 then x.bin == 0 && (decide (0 < s) && decide (x.n < s))
 else if x.op == 3 then x.bin == 0 && decide (x.n < 16)
 else if tk x.op == 1 then x.bin == 0 && x.n == 0
 else if tk x.op == 2 then x.n == 0 && canJ x.op x.bin
 else false

/-- From the left: how many values are there, behind a row of items; none: it cannot be. -/
def hgt (s : Int) : List Itm→Nat→Option Nat
 | [],h=>some h
 | x :: l,h=>if can s x = true∧tk x.op≤h then hgt s l (h - tk x.op + 1) else none

/-- Are items an expression? -/
def goodB (s : Int) (l : List Itm) : Bool:=decide (l.length≤64) && hgt s l 0 == some 1

/-- From the right (the row turned round): how many values are still wanted. -/
def wnt (s : Int) : List Itm→Nat→Option Nat
 | [],k=>some k
 | x :: l,k=>if can s x = true∧k ≠ 0 then wnt s l (k - 1 + tk x.op) else none

theorem hgt_app (s : Int) (l m : List Itm) (h : Nat) : hgt s (l ++ m) h = (hgt s l h).bind (hgt s m):=by
 induction l generalizing h with
 | nil=>rfl
 | cons x l ih =>
  show (if _ then hgt s (l ++ m) _ else none) = (if _ then hgt s l _ else none : Option Nat).bind _
  split
  ·exact ih _
  ·rfl

theorem hgt_snoc (s : Int) (l : List Itm) (x : Itm) (h k : Nat) : hgt s (l ++ [x]) h = some k↔∃ j,hgt s l h = some j∧can s x = true∧tk x.op≤j∧k = j - tk x.op + 1:=by
 rw [hgt_app]
 cases e : hgt s l h with
 | none=>simp
 | some j =>
  show hgt s [x] j = some k↔_
  unfold hgt
  split
  ·rename_i c
   constructor
   ·intro q
    exact ⟨j,rfl,c.1,c.2,by simpa [hgt] using q.symm⟩
   ·rintro ⟨j',hj,_,_,rfl⟩
    cases hj
    rfl
  ·rename_i c
   constructor
   ·intro q;cases q
   ·rintro ⟨j',hj,c1,c2,_⟩
    cases hj
    exact absurd ⟨c1,c2⟩ c

theorem rev_ind {α : Type} {P : List α→Prop} (h0 : P []) (h1 : ∀ l x,P l→P (l ++ [x])) (l : List α) : P l:=by
 have : ∀ m : List α,P m.reverse:=by
  intro m
  induction m with
  | nil=>exact h0
  | cons x m ih=>rw [List.reverse_cons];exact h1 _ _ ih
 have h:=this l.reverse
 rwa [List.reverse_reverse] at h

theorem hgt_wnt (s : Int) (l : List Itm) : ∀ k,hgt s l 0 = some k↔wnt s l.reverse k = some 0:=by
 refine rev_ind (P:=fun l=>∀ k,hgt s l 0 = some k↔wnt s l.reverse k = some 0) ?_ ?_ l
 ·intro k
  simp [hgt,wnt]
  exact eq_comm
 ·intro l x ih k
  rw [hgt_snoc,List.reverse_append]
  show _↔wnt s (x :: l.reverse) k = some 0
  unfold wnt
  split
  ·rename_i c
   rw [← ih]
   constructor
   ·rintro ⟨j,hj,_,h1,rfl⟩
    rw [hj];congr 1;omega
   ·intro h
    exact ⟨_,h,c.1,by omega,by omega⟩
  ·rename_i c
   constructor
   ·rintro ⟨j,hj,c1,h1,rfl⟩
    exact absurd ⟨c1,by omega⟩ c
   ·intro h;cases h

/-- The same by the document: from the right. -/
theorem good_right (s : Int) (l : List Itm) : goodB s l = (wnt s l.reverse 1 == some 0 && decide (l.length≤64)):=by
 unfold goodB
 rw [Bool.and_comm]
 congr 1
 rw [Bool.eq_iff_iff,beq_iff_eq,beq_iff_eq]
 exact hgt_wnt s l 1

end Go.Proofs.YtkdpcaoocmbbhaaDoor
/- Codes as plain data: their cells, how they lie in memory, and that an argument is one. -/
namespace Go.Proofs.YtkdpcaoocmbbhaaDoor
open Go.ChangeShapes Go.WideShapes Go.ChangeAt Go.RowKit Go.Deep
set_option maxRecDepth 100000
set_option linter.unusedVariables false

theorem hid {p : Prop} (h : p) : Hid p:=h
theorem retB {a b : Bool} (h : a = b) : Ending.returned (.bool a) = .returned (.bool b):=by rw [h]
theorem bover {w w1 w' : World} (h : Below w.heap.size w w1) (k : Below w1.heap.size w1 w') : Below w.heap.size w w':=h.trans (k.mono h.size)

theorem new_block (w : World) (o : Obj) : (w.alloc o).heap[w.heap.size]? = some o:=by
 show (w.heap.push o)[w.heap.size]? = some o
 simp
theorem new_cell (w : World) (cs : Array Value) (t : TypeId) (i : Nat) (v : Value) (h : cs[i]? = some v) : (w.alloc (.cells cs t)).cell? ⟨w.heap.size,i,none⟩ = some v:=by
 simp only [World.cell?,new_block]
 exact h

/-- Whole numbers of 64 bits. -/
def I64 (n : Int) : Prop:=-9223372036854775808≤n∧n≤9223372036854775807

structure Loc where
 kind : Int
 rc : Int
 once : Bool
structure Ins where
 op : Int
 dst : Int
 src : Int
 rc : Int
 n : Int
 to : Int
 items : List Itm
 iv : Value
 index : List Itm
 xv : Value
structure Bd where
 slots : List Loc
 sv : Value
 code : List Ins
 cv : Value
 most : Int
structure Ste where
 th : Int
 pl : Int
 rc : Int
structure Sec where
 th : Int
 fr : Int
 to : Int
structure Rl where
 flds : List Loc
 fv : Value
structure Cd where
 recs : List Rl
 rv : Value
 globs : List Loc
 gv : Value
 threads : List Bd
 tv : Value
 sites : List Ste
 ev : Value
 secs : List Sec
 cv : Value

def Itm.cells (x : Itm) : List Value:=[.int .i64 x.op,.int .i64 x.bin,.int .u64 x.n]
def Loc.cells (x : Loc) : List Value:=[.int .i64 x.kind,.int .i64 x.rc,.bool x.once]
def Ins.cells (x : Ins) : List Value:=[.int .i64 x.op,.int .i64 x.dst,.int .i64 x.src,.int .i64 x.rc,.int .i64 x.n,.int .i64 x.to,x.iv,x.xv]
def Bd.cells (x : Bd) : List Value:=[x.sv,x.cv,.int .i64 x.most]
def Ste.cells (x : Ste) : List Value:=[.int .i64 x.th,.int .i64 x.pl,.int .i64 x.rc]
def Sec.cells (x : Sec) : List Value:=[.int .i64 x.th,.int .i64 x.fr,.int .i64 x.to]
def Rl.cells (x : Rl) : List Value:=[x.fv]
def Cd.cells (x : Cd) : List Value:=[x.rv,x.gv,x.tv,x.ev,x.cv]

/-- A slice at which things of s cells lie, one behind the other. -/
def RowOf {α : Type} (cells : α→List Value) (s : Nat) (ok : World→α→Prop) (w : World) (v : Value) (l : List α) : Prop :=
 ∃ (a : Option Addr) (cap : Nat),v = .slice a l.length cap∧l.length≤cap∧cap≤maxLen∧(∀ p,a = some p→p.block < w.heap.size∧0 < l.length→p.spot = none)∧(a = none→l = []∧cap = 0) ∧
  ∀ (i : Nat) (x : α),l[i]? = some x→∃ b off,a = some ⟨b,off,none⟩∧b < w.heap.size∧w.rangeAt b (off + i * s) (cells x)∧ok w x

theorem RowOf.kept {α : Type} {cells : α→List Value} {s : Nat} {ok : World→α→Prop} {w w' : World} {v : Value} {l : List α} (h : RowOf cells s ok w v l) (hb : Below w.heap.size w w') (hk : ∀ x,ok w x→ok w' x) : RowOf cells s ok w' v l:=by
 obtain ⟨a,cap,h1,h2,h3,h4,h5,h6⟩:=h
 refine ⟨a,cap,h1,h2,h3,?_,h5,?_⟩
 ·rintro p rfl ⟨_,hl⟩
  have h0 : l[0]? = some (l[0]'hl):=by simp
  obtain ⟨b,off,e,_⟩:=h6 0 _ h0
  cases e;rfl
 ·intro i x hx
  obtain ⟨b,off,e,hlt,hr,ho⟩:=h6 i x hx
  exact ⟨b,off,e,Nat.lt_of_lt_of_le hlt hb.size,fun j u hu=>by rw [hb.cell hlt];exact hr j u hu,hk x ho⟩

theorem RowOf.form {α : Type} {cells : α→List Value} {s : Nat} {ok : World→α→Prop} {w : World} {v : Value} {l : List α} (h : RowOf cells s ok w v l) : ∃ a cap,v = .slice a l.length cap:=by
 obtain ⟨a,cap,h1,_⟩:=h
 exact ⟨a,cap,h1⟩

theorem RowOf.nil {α : Type} (cells : α→List Value) (s : Nat) (ok : World→α→Prop) (w : World) : RowOf cells s ok w (.slice none 0 0) [] :=
 ⟨none,0,rfl,by simp,by simp,(fun p h=>by cases h),(fun _=>⟨rfl,rfl⟩),fun i x h=>by simp at h⟩

def Itm.okW (w : World) (x : Itm) : Prop:=x.ok
def Loc.okW (w : World) (x : Loc) : Prop:=I64 x.kind∧I64 x.rc
def Ste.okW (w : World) (x : Ste) : Prop:=I64 x.th∧I64 x.pl∧I64 x.rc
def Sec.okW (w : World) (x : Sec) : Prop:=I64 x.th∧I64 x.fr∧I64 x.to
abbrev Items (w : World) (v : Value) (l : List Itm) : Prop:=RowOf Itm.cells 3 Itm.okW w v l
abbrev Locs (w : World) (v : Value) (l : List Loc) : Prop:=RowOf Loc.cells 3 Loc.okW w v l
abbrev Stes (w : World) (v : Value) (l : List Ste) : Prop:=RowOf Ste.cells 3 Ste.okW w v l
abbrev Secs (w : World) (v : Value) (l : List Sec) : Prop:=RowOf Sec.cells 3 Sec.okW w v l
def Ins.nums (x : Ins) : Prop:=I64 x.op∧I64 x.dst∧I64 x.src∧I64 x.rc∧I64 x.n∧I64 x.to
def Ins.okW (w : World) (x : Ins) : Prop:=x.nums∧Items w x.iv x.items∧Items w x.xv x.index
abbrev Inss (w : World) (v : Value) (l : List Ins) : Prop:=RowOf Ins.cells 8 Ins.okW w v l
def Bd.okW (w : World) (x : Bd) : Prop:=I64 x.most∧Locs w x.sv x.slots∧Inss w x.cv x.code
abbrev Bds (w : World) (v : Value) (l : List Bd) : Prop:=RowOf Bd.cells 3 Bd.okW w v l
def Rl.okW (w : World) (x : Rl) : Prop:=Locs w x.fv x.flds
abbrev Rls (w : World) (v : Value) (l : List Rl) : Prop:=RowOf Rl.cells 1 Rl.okW w v l
def Cd.okW (w : World) (c : Cd) : Prop:=Rls w c.rv c.recs∧Locs w c.gv c.globs∧Bds w c.tv c.threads∧Stes w c.ev c.sites∧Secs w c.cv c.secs

section
variable {w w' : World} (hb : Below w.heap.size w w')
theorem Items.kept {v l} (h : Items w v l) (hb : Below w.heap.size w w') : Items w' v l:=RowOf.kept h hb (fun _ h=>h)
theorem Locs.kept {v l} (h : Locs w v l) (hb : Below w.heap.size w w') : Locs w' v l:=RowOf.kept h hb (fun _ h=>h)
theorem Stes.kept {v l} (h : Stes w v l) (hb : Below w.heap.size w w') : Stes w' v l:=RowOf.kept h hb (fun _ h=>h)
theorem Secs.kept {v l} (h : Secs w v l) (hb : Below w.heap.size w w') : Secs w' v l:=RowOf.kept h hb (fun _ h=>h)
theorem Ins.kept {x : Ins} (h : x.okW w) (hb : Below w.heap.size w w') : x.okW w':=⟨h.1,Items.kept h.2.1 hb,Items.kept h.2.2 hb⟩
theorem Inss.kept {v l} (h : Inss w v l) (hb : Below w.heap.size w w') : Inss w' v l:=RowOf.kept h hb (fun _ h=>Ins.kept h hb)
theorem Bd.kept {x : Bd} (h : x.okW w) (hb : Below w.heap.size w w') : x.okW w':=⟨h.1,Locs.kept h.2.1 hb,Inss.kept h.2.2 hb⟩
theorem Bds.kept {v l} (h : Bds w v l) (hb : Below w.heap.size w w') : Bds w' v l:=RowOf.kept h hb (fun _ h=>Bd.kept h hb)
theorem Rl.kept {x : Rl} (h : x.okW w) (hb : Below w.heap.size w w') : x.okW w':=Locs.kept h hb
theorem Rls.kept {v l} (h : Rls w v l) (hb : Below w.heap.size w w') : Rls w' v l:=RowOf.kept h hb (fun _ h=>Rl.kept h hb)
theorem Cd.kept {c : Cd} (h : c.okW w) (hb : Below w.heap.size w w') : c.okW w':=⟨Rls.kept h.1 hb,Locs.kept h.2.1 hb,Bds.kept h.2.2.1 hb,Stes.kept h.2.2.2.1 hb,Secs.kept h.2.2.2.2 hb⟩
end

/-! ### An argument is one -/

section
variable {H : Type} {enc : TypeId × Value→H} {W : World} {n : Nat} {cs : List Value} {x : DataW H × List MemPlace}

end

/-- As an argument. -/
def IsCd (w : World) (v : Value) (c : Cd) : Prop:=v = .agg #[c.rv,c.gv,c.tv,c.ev,c.cv]∧c.okW w
end Go.Proofs.YtkdpcaoocmbbhaaDoor
/- Contracts of calc's takes, canJoin and canBe, over the landed code. -/
namespace Go.Proofs.YtkdpcaoocmbbhaaDoor
open Go.ChangeShapes Go.WideShapes Go.ChangeAt Go.RowKit
set_option linter.unusedVariables false
set_option linter.unusedSimpArgs false

/-- An item as a value. -/
def Itm.val (x : Itm) : Value:=.agg #[.int .i64 x.op,.int .i64 x.bin,.int .u64 x.n]

set_option maxHeartbeats 400000 in
theorem takes_any (op : Int) (w : World) : Calls Tryd.prog 94 #[.int .i64 op] w fun e w'=>e = .returned (.int .i64 (tk op))∧w' = w:=by
 go_enter Tryd.func94,Tryd.ntmps94
 go_wp2
 all_goals
  go_ret
  exact ⟨by simp [tk, *],rfl⟩

set_option maxHeartbeats 400000 in
theorem canJoin_any (op bin : Int) (w : World) : Calls Tryd.prog 97 #[.int .i64 op,.int .i64 bin] w fun e w'=>e = .returned (.bool (canJ op bin))∧w' = w:=by
 go_enter Tryd.func97,Tryd.ntmps97
 go_wp2
 all_goals
  go_ret
  exact ⟨congrArg (fun b=>Ending.returned (Value.bool b)) (by first | (simp [canJ, *];done) | (simp [canJ, *];intros;omega)),rfl⟩

set_option maxHeartbeats 1000000 in
theorem canBe_any (s : Int) (x : Itm) (w : World) (hx : x.ok) (h0 : -9223372036854775808≤s) (h1 : s≤9223372036854775807) :
  Calls Tryd.prog 95 #[.int .i64 s,.agg #[.int .i64 x.op,.int .i64 x.bin,.int .u64 x.n]] w fun e w'=>e = .returned (.bool (can s x))∧Below w.heap.size w w':=by
 obtain ⟨op,bin,n⟩:=x
 go_enter Tryd.func95,Tryd.ntmps95
 go_wp2_with (go_at_call 97;refine (canJoin_any _ _ _).mono ?_;rintro e w' ⟨rfl,rfl⟩)
 all_goals
  go_ret
  refine ⟨congrArg (fun b=>Ending.returned (Value.bool b)) ?_,(Below.refl _ _).alloc (Nat.le_refl _) _⟩
  first | (simp [can,tk, *];done) | (simp [can,tk, *];intros;omega)

end Go.Proofs.YtkdpcaoocmbbhaaDoor
/- Items at an address. -/
namespace Go.Proofs.YtkdpcaoocmbbhaaDoor
open Go.ChangeShapes Go.WideShapes Go.ChangeAt Go.RowKit Go.Deep
set_option linter.unusedVariables false

/-- An item's three cells. -/
def Itm.at (x : Itm) (w : World) (b o : Nat) : Prop:=w.cell? ⟨b,o,none⟩ = some (.int .i64 x.op)∧w.cell? ⟨b,o + 1,none⟩ = some (.int .i64 x.bin)∧w.cell? ⟨b,o + 2,none⟩ = some (.int .u64 x.n)

/-- Items at an address: so many rows of three cells. -/
def ItemsAt (w : World) (a : Option Addr) (xs : List Itm) : Prop :=
 ∀ i,i < xs.length→∃ b off,a = some ⟨b,off,none⟩∧b < w.heap.size∧(xs.getD i Itm.blank).at w b (off + i * 3)∧(xs.getD i Itm.blank).ok

theorem ItemsAt.kept {w w' : World} {a : Option Addr} {xs : List Itm} (h : ItemsAt w a xs) (hb : Below w.heap.size w w') : ItemsAt w' a xs:=by
 intro i hi
 obtain ⟨b,off,e,hlt,⟨c0,c1,c2⟩,ho⟩:=h i hi
 refine ⟨b,off,e,Nat.lt_of_lt_of_le hlt hb.size,⟨?_,?_,?_⟩,ho⟩
 ·rw [hb.cell hlt];exact c0
 ·rw [hb.cell hlt];exact c1
 ·rw [hb.cell hlt];exact c2

theorem Items.at {w : World} {v : Value} {xs : List Itm} (h : Items w v xs) : ∃ a cap,v = .slice a xs.length cap∧ItemsAt w a xs:=by
 obtain ⟨a,cap,h1,h2,h3,h4,h5,h6⟩:=h
 refine ⟨a,cap,h1,fun i hi=>?_⟩
 obtain ⟨b,off,e,hlt,hr,ho⟩:=h6 i (xs.getD i Itm.blank) (by simp [List.getD,hi])
 exact ⟨b,off,e,hlt,⟨hr 0 _ rfl,hr 1 _ rfl,hr 2 _ rfl⟩,ho⟩
end Go.Proofs.YtkdpcaoocmbbhaaDoor
/- Contracts of calc's Good and of the document's Good, over the landed code: both answer goodB. -/
namespace Go.Proofs.YtkdpcaoocmbbhaaDoor
open Go.ChangeShapes Go.WideShapes Go.ChangeAt Go.RowKit
set_option linter.unusedVariables false

theorem drop_here {α : Type} (d : α) (l : List α) (j : Nat) (h : j < l.length) : l.drop j = l.getD j d :: l.drop (j + 1):=by
 rw [List.drop_eq_getElem_cons h]
 simp [List.getD,h]

theorem hgt_no (s : Int) (x : Itm) (l : List Itm) (h : Nat) (c : ¬ (can s x = true∧tk x.op≤h)) : hgt s (x :: l) h = none:=by
 show (if _ then _ else _) = _
 rw [if_neg c]
theorem hgt_yes (s : Int) (x : Itm) (l : List Itm) (h : Nat) (c : can s x = true) (c2 : tk x.op≤h) : hgt s (x :: l) h = hgt s l (h - tk x.op + 1):=by
 show (if _ then _ else _) = _
 rw [if_pos ⟨c,c2⟩]

theorem good_none (s : Int) (l : List Itm) (h : hgt s l 0 = none) : goodB s l = false:=by
 unfold goodB;rw [h];simp
theorem good_some (s : Int) (l : List Itm) (k : Nat) (h : hgt s l 0 = some k) (h64 : l.length≤64) : goodB s l = ((k : Int) == 1):=by
 unfold goodB;rw [h,decide_eq_true h64,Bool.eq_iff_iff];simp;omega
theorem good_long (s : Int) (l : List Itm) (h64 : 64 < l.length) : goodB s l = false:=by
 unfold goodB;rw [decide_eq_false (by omega)];rfl


set_option maxRecDepth 100000 in
set_option maxHeartbeats 1000000 in
theorem good_any (s : Int) (a : Option Addr) (n cap : Nat) (xs : List Itm) (w : World) (hn : n = xs.length) (hx : ItemsAt w a xs) (hl : n≤1000000) (h0 : -9223372036854775808≤s) (h1 : s≤9223372036854775807) :
  Calls Tryd.prog 88 #[.int .i64 s,.slice a n cap] w fun e w'=>e = .returned (.bool (goodB s xs))∧Below w.heap.size w w':=by
 have HN : Hid (n = xs.length):=hn
 have HX : Hid (ItemsAt w a xs):=hx
 clear hn hx
 by_cases h64 : 64 < n
 ·have h64' : (64 : Int) < (n : Int):=by omega
  go_enter Tryd.func88,Tryd.ntmps88
  go_wp2
  go_ret
  exact ⟨retB (good_long s xs (by rw [← HN.out];exact h64)).symm,Below.refl _ _⟩
 ·have h64' : (n : Int)≤64:=by omega
  go_enter Tryd.func88,Tryd.ntmps88
  go_wp2_with fail
  go_loopw [5,14] (fun t5 t wr=>∃ (j h : Nat),t = .int .i64 j∧j≤n∧t5 = .int .i64 h∧h≤j∧Hid (hgt s (xs.drop j) h = hgt s xs 0)∧Hid (Below w.heap.size w wr)) (fun _ t _=>n - (intOf t).toNat)
  case atStart=>exact ⟨0,0,rfl,by omega,rfl,by omega,rfl,Below.refl _ _⟩
  case round =>
   obtain ⟨j,h,rfl,hj,rfl,hh,E,B⟩:=hrel
   by_cases hjn : j < n
   ·obtain ⟨b,off,rfl,hb,⟨c0,c1,c2⟩,ok⟩:=HX.out j (by rw [← HN.out];exact hjn)
    rw [← B.out.cell hb] at c0 c1 c2
    have D : Hid (xs.drop j = xs.getD j Itm.blank :: xs.drop (j + 1)):=drop_here _ _ _ (by rw [← HN.out];exact hjn)
    generalize xs.getD j Itm.blank = x at *
    have E2 : Hid (hgt s (x :: xs.drop (j + 1)) h = hgt s xs 0):=by rw [← D.out];exact E.out
    have ok' : Hid x.ok:=ok
    clear D E ok HX
    by_cases ht : tk x.op≤h
    ·have HT : Hid (tk x.op≤h):=ht
     have q1 : ((tk x.op : Nat) : Int)≤(h : Int):=by omega
     have q2 : 0≤(h : Int) - ((tk x.op : Nat) : Int):=by omega
     have C:=fun W=>canBe_any s x W ok'.out h0 h1
     cases hc : can s x
     ·simp only [hc] at C
      have HC : Hid (can s x = false):=hc
      clear hc ht
      go_wp2_with (first | (go_at_call 94;refine (takes_any _ _).mono ?_;rintro e w' ⟨rfl,rfl⟩) | (go_at_call 95;refine (C _).mono ?_;rintro e w' ⟨rfl,hb3⟩))
      go_ret
      refine ⟨retB (good_none s xs ?_).symm,?_⟩
      ·rw [← E2.out];exact hgt_no _ _ _ _ (by rw [HC.out];simp)
      ·exact (B.out.alloc B.out.size _).trans (hb3.mono (by have:=B.out.size;simp;omega))
     ·simp only [hc] at C
      have HC : Hid (can s x = true):=hc
      clear hc ht
      go_wp2_with (first | (go_at_call 94;refine (takes_any _ _).mono ?_;rintro e w' ⟨rfl,rfl⟩) | (go_at_call 95;refine (C _).mono ?_;rintro e w' ⟨rfl,hb3⟩))
      go_roundw
      case rel =>
       refine ⟨j + 1,h - tk x.op + 1,by go_num,by omega,?_,by omega,?_,?_⟩
       ·have:=HT.out
        congr 1;omega
       ·rw [Hid,← E2.out];exact (hgt_yes _ _ _ _ HC.out HT.out).symm
       ·exact (B.out.alloc B.out.size _).trans (hb3.mono (by have:=B.out.size;simp;omega))
      case measure=>simp [intOf];omega
    ·have HT : Hid (¬ tk x.op≤h):=ht
     have q2 : (h : Int) - ((tk x.op : Nat) : Int) < 0:=by omega
     have:=tk_le x.op
     clear ht
     go_wp2_with (first | (go_at_call 94;refine (takes_any _ _).mono ?_;rintro e w' ⟨rfl,rfl⟩))
     go_ret
     refine ⟨retB (good_none s xs ?_).symm,B.out.alloc B.out.size _⟩
     rw [← E2.out];exact hgt_no _ _ _ _ (fun c=>HT.out c.2)
   ·have e : j = n:=by omega
    have E2 : Hid (hgt s xs 0 = some h):=by
     rw [Hid,← E.out,List.drop_of_length_le (by rw [← HN.out];omega)];rfl
    clear E HX
    go_wp2
    go_ret
    exact ⟨retB (good_some s xs h E2.out (by rw [← HN.out];omega)).symm,B.out⟩
end Go.Proofs.YtkdpcaoocmbbhaaDoor
/- Contract of the document's Takes. -/
namespace Go.Proofs.YtkdpcaoocmbbhaaDoor
open Go.ChangeShapes Go.WideShapes Go.ChangeAt Go.RowKit
set_option linter.unusedVariables false
set_option linter.unusedSimpArgs false

/-- What the document's Takes answers. -/
def rtk (s : Int) (x : Itm) : Int:=if can s x then tk x.op else -1

theorem rtk_none (s : Int) (op bin n : Int) (h : op < 1∨10 < op) : rtk s ⟨op,bin,n⟩ = -1:=by
 have e : can s ⟨op,bin,n⟩ = false:=by
  unfold can tk
  rw [if_neg (by simp;omega),if_neg (by simp;omega),if_neg (by simp;omega)]
  have h4 : (op == 4) = false:=by simp;omega
  have h5 : (op == 5) = false:=by simp;omega
  have h6 : (op == 6) = false:=by simp;omega
  have h7 : (op == 7) = false:=by simp;omega
  have h8 : (op == 8) = false:=by simp;omega
  have h9 : (op == 9) = false:=by simp;omega
  have h10 : (op == 10) = false:=by simp;omega
  simp [h4,h5,h6,h7,h8,h9,h10]
 unfold rtk
 rw [e];rfl

theorem rtk_if (s op bin n : Int) (t : Nat) (P : Prop) [Decidable P] (hc : can s ⟨op,bin,n⟩ = true↔P) (ht : tk op = t) : rtk s ⟨op,bin,n⟩ = if P then (t : Int) else -1:=by
 unfold rtk
 by_cases h : P
 ·rw [if_pos h,if_pos (hc.2 h)];show (tk op : Int) = t;rw [ht]
 ·rw [if_neg h,if_neg (fun c=>h (hc.1 c))]

theorem rtk1 (s bin n : Int) : rtk s ⟨1,bin,n⟩ = if bin = 0 then ((0 : Nat) : Int) else -1:=rtk_if _ _ _ _ _ _ (by simp [can]) rfl
theorem rtk2 (s bin n : Int) : rtk s ⟨2,bin,n⟩ = if bin = 0∧0 < s∧n < s then ((0 : Nat) : Int) else -1:=rtk_if _ _ _ _ _ _ (by simp [can]) rfl
theorem rtk3 (s bin n : Int) : rtk s ⟨3,bin,n⟩ = if bin = 0∧n < 16 then ((0 : Nat) : Int) else -1:=rtk_if _ _ _ _ _ _ (by simp [can]) rfl
theorem rtk4 (s bin n : Int) : rtk s ⟨4,bin,n⟩ = if bin = 0∧n = 0 then ((1 : Nat) : Int) else -1:=rtk_if _ _ _ _ _ _ (by simp [can,tk]) rfl
theorem rtk5 (s bin n : Int) : rtk s ⟨5,bin,n⟩ = if bin = 0∧n = 0 then ((1 : Nat) : Int) else -1:=rtk_if _ _ _ _ _ _ (by simp [can,tk]) rfl
theorem rtk6 (s bin n : Int) : rtk s ⟨6,bin,n⟩ = if bin = 0∧n = 0 then ((1 : Nat) : Int) else -1:=rtk_if _ _ _ _ _ _ (by simp [can,tk]) rfl
theorem rtk7 (s bin n : Int) : rtk s ⟨7,bin,n⟩ = if bin = 0∧n = 0 then ((1 : Nat) : Int) else -1:=rtk_if _ _ _ _ _ _ (by simp [can,tk]) rfl
theorem rtk8 (s bin n : Int) : rtk s ⟨8,bin,n⟩ = if n = 0∧0≤bin∧bin≤8 then ((2 : Nat) : Int) else -1:=rtk_if _ _ _ _ _ _ (by simp [can,tk,canJ]) rfl
theorem rtk9 (s bin n : Int) : rtk s ⟨9,bin,n⟩ = if n = 0∧0≤bin∧bin≤8∧bin ≠ 4 then ((2 : Nat) : Int) else -1:=rtk_if _ _ _ _ _ _ (by simp [can,tk,canJ]) rfl
theorem rtk10 (s bin n : Int) : rtk s ⟨10,bin,n⟩ = if n = 0∧(bin = 5∨bin = 6) then ((2 : Nat) : Int) else -1:=rtk_if _ _ _ _ _ _ (by simp [can,tk,canJ]) rfl

set_option maxHeartbeats 1000000 in
theorem rtakes1 (s bin n : Int) (w : World) (hx : 0≤n∧n≤18446744073709551615) (h0 : -9223372036854775808≤s) (h1 : s≤9223372036854775807) :
  Calls Tryd.prog 68 #[.agg #[.int .i64 1,.int .i64 bin,.int .u64 n],.int .i64 s] w fun e w'=>e = .returned (.int .i64 (rtk s ⟨1,bin,n⟩))∧Below w.heap.size w w':=by
 obtain ⟨n0,n1⟩:=hx
 go_enter Tryd.func68,Tryd.ntmps68
 go_wp2
 all_goals
  go_ret
  refine ⟨congrArg (fun b=>Ending.returned (Value.int .i64 b)) ?_,(Below.refl _ _).alloc (Nat.le_refl _) _⟩
  rw [rtk1]
  try simp only [beq_iff_eq,bne_iff_ne,beq_eq_false_iff_ne,bne_eq_false_iff_eq,ne_eq] at *
  first | (rw [if_pos (by omega)];rfl) | (rw [if_neg (by omega)])

set_option maxHeartbeats 1000000 in
theorem rtakes2 (s bin n : Int) (w : World) (hx : 0≤n∧n≤18446744073709551615) (h0 : -9223372036854775808≤s) (h1 : s≤9223372036854775807) :
  Calls Tryd.prog 68 #[.agg #[.int .i64 2,.int .i64 bin,.int .u64 n],.int .i64 s] w fun e w'=>e = .returned (.int .i64 (rtk s ⟨2,bin,n⟩))∧Below w.heap.size w w':=by
 obtain ⟨n0,n1⟩:=hx
 go_enter Tryd.func68,Tryd.ntmps68
 go_wp2
 all_goals
  go_ret
  refine ⟨congrArg (fun b=>Ending.returned (Value.int .i64 b)) ?_,(Below.refl _ _).alloc (Nat.le_refl _) _⟩
  rw [rtk2]
  try simp only [beq_iff_eq,bne_iff_ne,beq_eq_false_iff_ne,bne_eq_false_iff_eq,ne_eq] at *
  first | (rw [if_pos (by omega)];rfl) | (rw [if_neg (by omega)])

set_option maxHeartbeats 1000000 in
theorem rtakes3 (s bin n : Int) (w : World) (hx : 0≤n∧n≤18446744073709551615) (h0 : -9223372036854775808≤s) (h1 : s≤9223372036854775807) :
  Calls Tryd.prog 68 #[.agg #[.int .i64 3,.int .i64 bin,.int .u64 n],.int .i64 s] w fun e w'=>e = .returned (.int .i64 (rtk s ⟨3,bin,n⟩))∧Below w.heap.size w w':=by
 obtain ⟨n0,n1⟩:=hx
 go_enter Tryd.func68,Tryd.ntmps68
 go_wp2
 all_goals
  go_ret
  refine ⟨congrArg (fun b=>Ending.returned (Value.int .i64 b)) ?_,(Below.refl _ _).alloc (Nat.le_refl _) _⟩
  rw [rtk3]
  try simp only [beq_iff_eq,bne_iff_ne,beq_eq_false_iff_ne,bne_eq_false_iff_eq,ne_eq] at *
  first | (rw [if_pos (by omega)];rfl) | (rw [if_neg (by omega)])

set_option maxHeartbeats 1000000 in
theorem rtakes4 (s bin n : Int) (w : World) (hx : 0≤n∧n≤18446744073709551615) (h0 : -9223372036854775808≤s) (h1 : s≤9223372036854775807) :
  Calls Tryd.prog 68 #[.agg #[.int .i64 4,.int .i64 bin,.int .u64 n],.int .i64 s] w fun e w'=>e = .returned (.int .i64 (rtk s ⟨4,bin,n⟩))∧Below w.heap.size w w':=by
 obtain ⟨n0,n1⟩:=hx
 go_enter Tryd.func68,Tryd.ntmps68
 go_wp2
 all_goals
  go_ret
  refine ⟨congrArg (fun b=>Ending.returned (Value.int .i64 b)) ?_,(Below.refl _ _).alloc (Nat.le_refl _) _⟩
  rw [rtk4]
  try simp only [beq_iff_eq,bne_iff_ne,beq_eq_false_iff_ne,bne_eq_false_iff_eq,ne_eq] at *
  first | (rw [if_pos (by omega)];rfl) | (rw [if_neg (by omega)])

set_option maxHeartbeats 1000000 in
theorem rtakes5 (s bin n : Int) (w : World) (hx : 0≤n∧n≤18446744073709551615) (h0 : -9223372036854775808≤s) (h1 : s≤9223372036854775807) :
  Calls Tryd.prog 68 #[.agg #[.int .i64 5,.int .i64 bin,.int .u64 n],.int .i64 s] w fun e w'=>e = .returned (.int .i64 (rtk s ⟨5,bin,n⟩))∧Below w.heap.size w w':=by
 obtain ⟨n0,n1⟩:=hx
 go_enter Tryd.func68,Tryd.ntmps68
 go_wp2
 all_goals
  go_ret
  refine ⟨congrArg (fun b=>Ending.returned (Value.int .i64 b)) ?_,(Below.refl _ _).alloc (Nat.le_refl _) _⟩
  rw [rtk5]
  try simp only [beq_iff_eq,bne_iff_ne,beq_eq_false_iff_ne,bne_eq_false_iff_eq,ne_eq] at *
  first | (rw [if_pos (by omega)];rfl) | (rw [if_neg (by omega)])

set_option maxHeartbeats 1000000 in
theorem rtakes6 (s bin n : Int) (w : World) (hx : 0≤n∧n≤18446744073709551615) (h0 : -9223372036854775808≤s) (h1 : s≤9223372036854775807) :
  Calls Tryd.prog 68 #[.agg #[.int .i64 6,.int .i64 bin,.int .u64 n],.int .i64 s] w fun e w'=>e = .returned (.int .i64 (rtk s ⟨6,bin,n⟩))∧Below w.heap.size w w':=by
 obtain ⟨n0,n1⟩:=hx
 go_enter Tryd.func68,Tryd.ntmps68
 go_wp2
 all_goals
  go_ret
  refine ⟨congrArg (fun b=>Ending.returned (Value.int .i64 b)) ?_,(Below.refl _ _).alloc (Nat.le_refl _) _⟩
  rw [rtk6]
  try simp only [beq_iff_eq,bne_iff_ne,beq_eq_false_iff_ne,bne_eq_false_iff_eq,ne_eq] at *
  first | (rw [if_pos (by omega)];rfl) | (rw [if_neg (by omega)])

set_option maxHeartbeats 1000000 in
theorem rtakes7 (s bin n : Int) (w : World) (hx : 0≤n∧n≤18446744073709551615) (h0 : -9223372036854775808≤s) (h1 : s≤9223372036854775807) :
  Calls Tryd.prog 68 #[.agg #[.int .i64 7,.int .i64 bin,.int .u64 n],.int .i64 s] w fun e w'=>e = .returned (.int .i64 (rtk s ⟨7,bin,n⟩))∧Below w.heap.size w w':=by
 obtain ⟨n0,n1⟩:=hx
 go_enter Tryd.func68,Tryd.ntmps68
 go_wp2
 all_goals
  go_ret
  refine ⟨congrArg (fun b=>Ending.returned (Value.int .i64 b)) ?_,(Below.refl _ _).alloc (Nat.le_refl _) _⟩
  rw [rtk7]
  try simp only [beq_iff_eq,bne_iff_ne,beq_eq_false_iff_ne,bne_eq_false_iff_eq,ne_eq] at *
  first | (rw [if_pos (by omega)];rfl) | (rw [if_neg (by omega)])

set_option maxHeartbeats 1000000 in
theorem rtakes8 (s bin n : Int) (w : World) (hx : 0≤n∧n≤18446744073709551615) (h0 : -9223372036854775808≤s) (h1 : s≤9223372036854775807) :
  Calls Tryd.prog 68 #[.agg #[.int .i64 8,.int .i64 bin,.int .u64 n],.int .i64 s] w fun e w'=>e = .returned (.int .i64 (rtk s ⟨8,bin,n⟩))∧Below w.heap.size w w':=by
 obtain ⟨n0,n1⟩:=hx
 go_enter Tryd.func68,Tryd.ntmps68
 go_wp2
 all_goals
  go_ret
  refine ⟨congrArg (fun b=>Ending.returned (Value.int .i64 b)) ?_,(Below.refl _ _).alloc (Nat.le_refl _) _⟩
  rw [rtk8]
  try simp only [beq_iff_eq,bne_iff_ne,beq_eq_false_iff_ne,bne_eq_false_iff_eq,ne_eq] at *
  first | (rw [if_pos (by omega)];rfl) | (rw [if_neg (by omega)])

set_option maxHeartbeats 1000000 in
theorem rtakes9 (s bin n : Int) (w : World) (hx : 0≤n∧n≤18446744073709551615) (h0 : -9223372036854775808≤s) (h1 : s≤9223372036854775807) :
  Calls Tryd.prog 68 #[.agg #[.int .i64 9,.int .i64 bin,.int .u64 n],.int .i64 s] w fun e w'=>e = .returned (.int .i64 (rtk s ⟨9,bin,n⟩))∧Below w.heap.size w w':=by
 obtain ⟨n0,n1⟩:=hx
 go_enter Tryd.func68,Tryd.ntmps68
 go_wp2
 all_goals
  go_ret
  refine ⟨congrArg (fun b=>Ending.returned (Value.int .i64 b)) ?_,(Below.refl _ _).alloc (Nat.le_refl _) _⟩
  rw [rtk9]
  try simp only [beq_iff_eq,bne_iff_ne,beq_eq_false_iff_ne,bne_eq_false_iff_eq,ne_eq] at *
  first | (rw [if_pos (by omega)];rfl) | (rw [if_neg (by omega)])

set_option maxHeartbeats 1000000 in
theorem rtakes10 (s bin n : Int) (w : World) (hx : 0≤n∧n≤18446744073709551615) (h0 : -9223372036854775808≤s) (h1 : s≤9223372036854775807) :
  Calls Tryd.prog 68 #[.agg #[.int .i64 10,.int .i64 bin,.int .u64 n],.int .i64 s] w fun e w'=>e = .returned (.int .i64 (rtk s ⟨10,bin,n⟩))∧Below w.heap.size w w':=by
 obtain ⟨n0,n1⟩:=hx
 go_enter Tryd.func68,Tryd.ntmps68
 go_wp2
 all_goals
  go_ret
  refine ⟨congrArg (fun b=>Ending.returned (Value.int .i64 b)) ?_,(Below.refl _ _).alloc (Nat.le_refl _) _⟩
  rw [rtk10]
  try simp only [beq_iff_eq,bne_iff_ne,beq_eq_false_iff_ne,bne_eq_false_iff_eq,ne_eq] at *
  first | (rw [if_pos (by omega)];rfl) | (rw [if_neg (by omega)])

set_option maxHeartbeats 1000000 in
theorem rtakes_out (s op bin n : Int) (w : World) (h : op < 1∨10 < op) (hx : 0≤n∧n≤18446744073709551615) (h0 : -9223372036854775808≤s) (h1 : s≤9223372036854775807) :
  Calls Tryd.prog 68 #[.agg #[.int .i64 op,.int .i64 bin,.int .u64 n],.int .i64 s] w fun e w'=>e = .returned (.int .i64 (rtk s ⟨op,bin,n⟩))∧Below w.heap.size w w':=by
 rw [rtk_none s op bin n h]
 rcases h with h | h
 ·have g1 : op < 4:=by omega
  have g2 : op < 8:=by omega
  go_enter Tryd.func68,Tryd.ntmps68
  go_wp2
  all_goals
   go_ret
   exact ⟨rfl,(Below.refl _ _).alloc (Nat.le_refl _) _⟩
 ·have g1 : 1≤op:=by omega
  have g2 : 3 < op:=by omega
  have g3 : 4≤op:=by omega
  have g4 : 7 < op:=by omega
  have g5 : 8≤op:=by omega
  go_enter Tryd.func68,Tryd.ntmps68
  go_wp2
  all_goals
   go_ret
   exact ⟨rfl,(Below.refl _ _).alloc (Nat.le_refl _) _⟩

theorem rtakes_any (s : Int) (x : Itm) (w : World) (hx : x.ok) (h0 : -9223372036854775808≤s) (h1 : s≤9223372036854775807) :
  Calls Tryd.prog 68 #[.agg #[.int .i64 x.op,.int .i64 x.bin,.int .u64 x.n],.int .i64 s] w fun e w'=>e = .returned (.int .i64 (rtk s x))∧Below w.heap.size w w':=by
 obtain ⟨op,bin,n⟩:=x
 obtain ⟨_,_,_,_,n0,n1⟩:=hx
 by_cases h : op < 1∨10 < op
 ·exact rtakes_out s op bin n w h ⟨n0,n1⟩ h0 h1
 ·have : op = 1∨op = 2∨op = 3∨op = 4∨op = 5∨op = 6∨op = 7∨op = 8∨op = 9∨op = 10:=by omega
  rcases this with rfl | rfl | rfl | rfl | rfl | rfl | rfl | rfl | rfl | rfl
  ·exact rtakes1 s bin n w ⟨n0,n1⟩ h0 h1
  ·exact rtakes2 s bin n w ⟨n0,n1⟩ h0 h1
  ·exact rtakes3 s bin n w ⟨n0,n1⟩ h0 h1
  ·exact rtakes4 s bin n w ⟨n0,n1⟩ h0 h1
  ·exact rtakes5 s bin n w ⟨n0,n1⟩ h0 h1
  ·exact rtakes6 s bin n w ⟨n0,n1⟩ h0 h1
  ·exact rtakes7 s bin n w ⟨n0,n1⟩ h0 h1
  ·exact rtakes8 s bin n w ⟨n0,n1⟩ h0 h1
  ·exact rtakes9 s bin n w ⟨n0,n1⟩ h0 h1
  ·exact rtakes10 s bin n w ⟨n0,n1⟩ h0 h1
end Go.Proofs.YtkdpcaoocmbbhaaDoor
