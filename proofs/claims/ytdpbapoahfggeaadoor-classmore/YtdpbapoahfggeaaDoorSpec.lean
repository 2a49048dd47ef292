/- Layer 9 as plain mathematics: which codes can be. No Go in it. -/
import Derived.Test.YtdpbapoahfggeaaDoorIns
namespace Go.Proofs.YtdpbapoahfggeaaDoor
set_option linter.unusedVariables false

def isIn (n : Int) (m : Nat) : Bool := decide (0 ≤ n) && decide (n < (m : Int))
theorem isIn_iff {n : Int} {m : Nat} : isIn n m = true ↔ 0 ≤ n ∧ n < (m : Int) := by simp [isIn]

/-- Can a local be, with so many records? -/
def locOk (nr : Nat) (l : Loc) : Bool :=
  if l.kind == 4 then isIn l.rc nr else if l.kind == 1 || l.kind == 2 || l.kind == 3 then l.rc == 0 else false

/-- Which fields an instruction has. -/
def hasD (op : Int) : Bool := op == 1 || op == 2 || op == 3 || op == 4 || op == 8 || op == 9 || op == 10
def hasS (op : Int) : Bool := op == 3 || op == 4 || op == 6 || op == 7 || op == 10
def hasR (op : Int) : Bool := op == 3 || op == 6 || op == 8
def hasN (op : Int) : Bool := op == 2 || op == 3 || op == 5 || op == 6 || op == 8 || op == 9 || op == 15 || op == 16
def hasT (op : Int) : Bool := op == 13 || op == 14
def hasI (op : Int) : Bool := op == 1 || op == 5 || op == 6 || op == 7 || op == 9 || op == 11 || op == 12 || op == 14
def hasX (op : Int) : Bool := op == 4 || op == 7
def isOp (op : Int) : Bool := decide (1 ≤ op) && decide (op ≤ 17)
def touchB (op : Int) : Bool := decide (2 ≤ op) && decide (op ≤ 9)

def fld (named good zero : Bool) : Bool := if named then good else zero

/-- Where it goes on: in the thread, in the same section or none. -/
def tgtB (secs : List Sec) (th : Int) (nc : Nat) (pl n : Int) : Bool := isIn n nc && inside secs th n == inside secs th pl

def Loc.z : Loc := ⟨0, 0, false⟩
def Bd.z : Bd := ⟨[], .bool false, [], .bool false, 0⟩
def Rl.z : Rl := ⟨[], .bool false⟩
def Ins.z : Ins := ⟨0, 0, 0, 0, 0, 0, [], .slice none 0 0, [], .slice none 0 0⟩
def Ste.z : Ste := ⟨0, 0, 0⟩
def Sec.z : Sec := ⟨0, 0, 0⟩

/-- The fields one by one. -/
def fieldsB (c : Cd) (th : Int) (b : Bd) (pl : Int) (x : Ins) : Bool :=
  fld (hasD x.op) (isIn x.dst b.slots.length) (x.dst == 0) && (fld (hasS x.op) (isIn x.src b.slots.length) (x.src == 0) && (fld (hasR x.op) (isIn x.rc c.recs.length) (x.rc == 0) &&
    ((hasN x.op || x.n == 0) && (fld (hasT x.op) (tgtB c.secs th b.code.length pl x.to) (x.to == 0) &&
      (fld (hasI x.op) (goodB b.slots.length x.items) (decide (x.items.length = 0)) && fld (hasX x.op) (goodB b.slots.length x.index) (decide (x.index.length = 0)))))))

/-- A slot is of the kind and the record. -/
def holdsB (b : Bd) (slot kind rc : Int) : Bool := (b.slots.getD slot.toNat Loc.z).kind == kind && (b.slots.getD slot.toNat Loc.z).rc == rc

def hasFieldB (c : Cd) (b : Bd) (x : Ins) : Bool := holdsB b x.src 4 x.rc && isIn x.n (c.recs.getD x.rc.toNat Rl.z).flds.length
def fieldAt (c : Cd) (x : Ins) : Loc := (c.recs.getD x.rc.toNat Rl.z).flds.getD x.n.toNat Loc.z
def globAt (c : Cd) (x : Ins) : Loc := c.globs.getD x.n.toNat Loc.z
def siteB (c : Cd) (th pl : Int) (n rc : Int) : Bool := isIn n c.sites.length && ((c.sites.getD n.toNat Ste.z).th == th && ((c.sites.getD n.toNat Ste.z).pl == pl && (c.sites.getD n.toNat Ste.z).rc == rc))

/-- What the fields are places of agrees. -/
def agreesB (c : Cd) (th : Int) (b : Bd) (pl : Int) (x : Ins) : Bool :=
  if x.op == 2 then isIn x.n c.globs.length && holdsB b x.dst (globAt c x).kind (globAt c x).rc
  else if x.op == 5 then isIn x.n c.globs.length
  else if x.op == 3 then hasFieldB c b x && holdsB b x.dst (fieldAt c x).kind (fieldAt c x).rc
  else if x.op == 6 then hasFieldB c b x
  else if x.op == 4 || x.op == 10 then holdsB b x.dst 1 0 && holdsB b x.src 3 0
  else if x.op == 7 then holdsB b x.src 3 0
  else if x.op == 8 then holdsB b x.dst 4 x.rc && siteB c th pl x.n x.rc
  else if x.op == 9 then holdsB b x.dst 3 0 && siteB c th pl x.n (-1)
  else if x.op == 15 then isIn x.n c.secs.length && ((c.secs.getD x.n.toNat Sec.z).th == th && (c.secs.getD x.n.toNat Sec.z).fr == pl)
  else if x.op == 16 then isIn x.n c.secs.length && ((c.secs.getD x.n.toNat Sec.z).th == th && (c.secs.getD x.n.toNat Sec.z).to == pl)
  else true

def insOk (c : Cd) (th : Int) (b : Bd) (pl : Int) (x : Ins) : Bool :=
  isOp x.op && ((decide (pl = (b.code.length : Int) - 1) == (x.op == 17)) && ((!touchB x.op || decide (0 ≤ inside c.secs th pl)) && (fieldsB c th b pl x && agreesB c th b pl x)))

/-- The instruction at a place of a thread; a blank one, if there is none. -/
def insAt (c : Cd) (th pl : Int) : Ins :=
  if isIn th c.threads.length && isIn pl (c.threads.getD th.toNat Bd.z).code.length then (c.threads.getD th.toNat Bd.z).code.getD pl.toNat Ins.z else Ins.z

def meetB (a b : Sec) : Bool := a.th == b.th && (decide (a.fr ≤ b.to) && decide (b.fr ≤ a.to))

def cellOk (nr : Nat) (l : Loc) : Bool := !l.once && locOk nr l

def secOk (c : Cd) (i : Int) (s : Sec) : Prop :=
  (insAt c s.th s.fr).op = 15 ∧ (insAt c s.th s.fr).n = i ∧ (insAt c s.th s.to).op = 16 ∧ (insAt c s.th s.to).n = i ∧ s.fr < s.to
def steOk (c : Cd) (i : Int) (s : Ste) : Prop := ((insAt c s.th s.pl).op = 8 ∨ (insAt c s.th s.pl).op = 9) ∧ (insAt c s.th s.pl).n = i

/-- The thread can be. -/
def bdOk (c : Cd) (th : Int) (b : Bd) : Prop :=
  b.slots.length ≤ 64 ∧ 0 ≤ b.most ∧ b.most ≤ 4096 ∧ 0 < b.code.length ∧ b.code.length ≤ 256 ∧ ∀ (j : Nat) (x : Ins), b.code[j]? = some x → insOk c th b j x = true

/-- The code can be. -/
structure GoodP (c : Cd) : Prop where
  l1 : c.recs.length ≤ 6
  l2 : c.globs.length ≤ 8
  l3 : c.threads.length ≤ 4
  l4 : c.sites.length ≤ 32
  l5 : c.secs.length ≤ 32
  flds : ∀ (i : Nat) (r : Rl), c.recs[i]? = some r → r.flds.length ≤ 6
  cells1 : ∀ (i : Nat) (l : Loc), c.globs[i]? = some l → cellOk c.recs.length l = true
  cells2 : ∀ (i : Nat) (r : Rl), c.recs[i]? = some r → ∀ (j : Nat) (l : Loc), r.flds[j]? = some l → cellOk c.recs.length l = true
  slots : ∀ (i : Nat) (t : Bd), c.threads[i]? = some t → ∀ (j : Nat) (l : Loc), t.slots[j]? = some l → locOk c.recs.length l = true
  secs : ∀ (i : Nat) (s : Sec), c.secs[i]? = some s → secOk c i s ∧ ∀ (k : Nat) (o : Sec), k < i → c.secs[k]? = some o → meetB s o = false
  sites : ∀ (i : Nat) (s : Ste), c.sites[i]? = some s → steOk c i s
  ths : ∀ (i : Nat) (t : Bd), c.threads[i]? = some t → bdOk c i t

/-- A code that isn't too great to be played. -/
structure SmallP (c : Cd) : Prop where
  l1 : c.recs.length ≤ 1000
  l2 : c.globs.length ≤ 1000
  l3 : c.threads.length ≤ 1000
  l4 : c.sites.length ≤ 1000
  l5 : c.secs.length ≤ 1000
  flds : ∀ (i : Nat) (r : Rl), c.recs[i]? = some r → r.flds.length ≤ 1000
  slots : ∀ (i : Nat) (t : Bd), c.threads[i]? = some t → t.slots.length ≤ 1000
  code : ∀ (i : Nat) (t : Bd), c.threads[i]? = some t → t.code.length ≤ 1000
  items : ∀ (i : Nat) (t : Bd), c.threads[i]? = some t → ∀ (j : Nat) (x : Ins), t.code[j]? = some x → x.items.length ≤ 1000 ∧ x.index.length ≤ 1000
end Go.Proofs.YtdpbapoahfggeaaDoor
