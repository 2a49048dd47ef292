/- Contracts of fieldsCanBe's closures. -/
import Derived.Test.YtkdpcaoocmbbhaaDoorM03
import Derived.Test.YtkdpcaoocmbbhaaDoorM00
import Derived.Deep.QuietTactic
import Derived.BigQuiet
namespace Go.Proofs.YtkdpcaoocmbbhaaDoor
open Go.ChangeShapes Go.WideShapes Go.ChangeAt Go.RowKit
set_option linter.unusedVariables false
set_option linter.unusedSimpArgs false

theorem nine {w : World} {b : Nat} {v0 v1 v2 v3 v4 v5 v6 v7 v8 : Value} (h : BoxAt w b [v0,v1,v2,v3,v4,v5,v6,v7,v8]) :
  w.cell? ⟨b,0,none⟩ = some v0∧w.cell? ⟨b,1,none⟩ = some v1∧w.cell? ⟨b,2,none⟩ = some v2∧w.cell? ⟨b,3,none⟩ = some v3∧w.cell? ⟨b,4,none⟩ = some v4∧w.cell? ⟨b,5,none⟩ = some v5∧w.cell? ⟨b,6,none⟩ = some v6∧w.cell? ⟨b,7,none⟩ = some v7∧w.cell? ⟨b,8,none⟩ = some v8 :=
 ⟨h.2 0 _ rfl,h.2 1 _ rfl,h.2 2 _ rfl,h.2 3 _ rfl,h.2 4 _ rfl,h.2 5 _ rfl,h.2 6 _ rfl,h.2 7 _ rfl,h.2 8 _ rfl⟩

theorem ten {w : World} {b bp : Nat} {v0 v1 v2 v3 v4 v5 v6 v7 v8 u : Value} (h : BoxAt w b [v0,v1,v2,v3,v4,v5,v6,v7,v8]) (k : BoxAt w bp [u]) :
  w.cell? ⟨b,0,none⟩ = some v0∧w.cell? ⟨b,1,none⟩ = some v1∧w.cell? ⟨b,2,none⟩ = some v2∧w.cell? ⟨b,3,none⟩ = some v3∧w.cell? ⟨b,4,none⟩ = some v4∧w.cell? ⟨b,5,none⟩ = some v5∧w.cell? ⟨b,6,none⟩ = some v6∧w.cell? ⟨b,7,none⟩ = some v7∧w.cell? ⟨b,8,none⟩ = some v8∧w.cell? ⟨bp,0,none⟩ = some u :=
 ⟨h.2 0 _ rfl,h.2 1 _ rfl,h.2 2 _ rfl,h.2 3 _ rfl,h.2 4 _ rfl,h.2 5 _ rfl,h.2 6 _ rfl,h.2 7 _ rfl,h.2 8 _ rfl,k.2 0 _ rfl⟩
theorem below_drewN {w0 w : World} (h : Below w0.heap.size w0 w) (n : Nat) : Below w0.heap.size w0 (w.drewN n):=⟨h.os,h.tape,h.output,h.size,h.block⟩

set_option maxHeartbeats 1000000 in
theorem slotOk_any (b : Nat) (n : Int) (a5 : Option Addr) (n5 p5 : Nat) (rv gv tv ev cv tv5 dv mv : Value) (w : World) (hb : BoxAt w b [rv,gv,tv,ev,cv,tv5,.slice a5 n5 p5,dv,mv]) :
  Calls Tryd.prog 82 #[.int .i64 n,.pointer (some ⟨b,0,none⟩)] w fun e w'=>e = .returned (.bool (isIn n n5))∧Below w.heap.size w w':=by
 have c6:=hb.2 6 _ rfl
 have C:=hid (fun W=>place59_any n a5 n5 p5 W)
 clear hb
 go_enter Tryd.func82,Tryd.ntmps82
 go_wp2_with (go_at_call 83;refine Calls.mono (C.out _) ?_;rintro e w' ⟨rfl,rfl⟩)
 go_ret
 exact ⟨rfl,Below.refl _ _⟩

set_option maxHeartbeats 1000000 in
theorem recOk_any (b : Nat) (n : Int) (a0 : Option Addr) (n0 p0 : Nat) (gv tv ev cv tv5 sv dv mv : Value) (w : World) (hb : BoxAt w b [.slice a0 n0 p0,gv,tv,ev,cv,tv5,sv,dv,mv]) :
  Calls Tryd.prog 84 #[.int .i64 n,.pointer (some ⟨b,0,none⟩)] w fun e w'=>e = .returned (.bool (isIn n n0))∧Below w.heap.size w w':=by
 have c0:=hb.2 0 _ rfl
 have C:=hid (fun W=>place46_any n a0 n0 p0 W)
 clear hb
 go_enter Tryd.func84,Tryd.ntmps84
 go_wp2_with (go_at_call 69;refine Calls.mono (C.out _) ?_;rintro e w' ⟨rfl,rfl⟩)
 go_ret
 exact ⟨rfl,Below.refl _ _⟩

set_option maxRecDepth 100000 in
set_option maxHeartbeats 1000000 in
theorem target_any (b bp : Nat) (th n pl : Int) (a0 : Option Addr) (n0 p0 : Nat) (a1 : Option Addr) (n1 p1 : Nat) (a2 : Option Addr) (n2 p2 : Nat) (a3 : Option Addr) (n3 p3 : Nat) (a4 : Option Addr) (n4 p4 : Nat) (a5 : Option Addr) (n5 p5 : Nat) (a6 : Option Addr) (n6 p6 : Nat) (most : Int) (l : List Sec) (w : World)
  (hc : Secs w (.slice a4 n4 p4) l) (hn : l.length≤1000000)
  (hb : BoxAt w b [.slice a0 n0 p0,.slice a1 n1 p1,.slice a2 n2 p2,.slice a3 n3 p3,.slice a4 n4 p4,.int .i64 th,.slice a5 n5 p5,.slice a6 n6 p6,.int .i64 most]) (hp : BoxAt w bp [.int .i64 pl]) :
  Calls Tryd.prog 85 #[.int .i64 n,.pointer (some ⟨b,0,none⟩),.pointer (some ⟨bp,0,none⟩)] w fun e w'=>e = .returned (.bool (tgtB l th n6 pl n))∧Below w.heap.size w w':=by
 have C48:=fun W=>place48_any n a6 n6 p6 W
 have hlt:=hb.1
 have hlp:=hp.1
 have z9:=nine hb
 obtain ⟨c0,c1,c2,c3,c4,c5,c6,c7,c8⟩:=z9
 have d0:=hp.2 0 _ rfl
 cases hi : isIn n n6
 ·have F : Hid (tgtB l th n6 pl n = false):=hid (by unfold tgtB;rw [hi];rfl)
  rw [hi] at C48
  replace C48:=hid C48
  clear hi hb hp hc
  go_enter Tryd.func85,Tryd.ntmps85
  go_wp2_with fail
  go_quiet ((go_at_call 71;exact Calls.quiet_of_same (C48.out _)))
  go_wp2
  go_ret
  refine ⟨retB F.out.symm,?_⟩
  exact below_drewN (Below.refl _ _) nq
 ·have F : Hid (tgtB l th n6 pl n = (inside l th n == inside l th pl)):=hid (by unfold tgtB;rw [hi];rfl)
  have Cn:=hid (fun W (h : Below w.heap.size w W)=>section_any (.slice a0 n0 p0) (.slice a1 n1 p1) (.slice a2 n2 p2) (.slice a3 n3 p3) (.slice a4 n4 p4) (.slice a5 n5 p5) (.slice a6 n6 p6) (.int .i64 most) l th n W (Secs.kept hc h) hn)
  have Cp:=hid (fun W (h : Below w.heap.size w W)=>section_any (.slice a0 n0 p0) (.slice a1 n1 p1) (.slice a2 n2 p2) (.slice a3 n3 p3) (.slice a4 n4 p4) (.slice a5 n5 p5) (.slice a6 n6 p6) (.int .i64 most) l th pl W (Secs.kept hc h) hn)
  generalize inside l th n = s1 at *
  generalize inside l th pl = s2 at *
  rw [hi] at C48
  replace C48:=hid C48
  replace hb:=hid hb
  replace hp:=hid hp
  have B0:=hid (Below.refl w.heap.size w).drew
  clear hi hc
  go_enter Tryd.func85,Tryd.ntmps85
  go_wp2_with fail
  go_region_held3 (fun w'=>w'.cell? ⟨b,0,none⟩ = some (.slice a0 n0 p0)∧w'.cell? ⟨b,1,none⟩ = some (.slice a1 n1 p1)∧w'.cell? ⟨b,2,none⟩ = some (.slice a2 n2 p2)∧w'.cell? ⟨b,3,none⟩ = some (.slice a3 n3 p3)∧w'.cell? ⟨b,4,none⟩ = some (.slice a4 n4 p4)∧w'.cell? ⟨b,5,none⟩ = some (.int .i64 th)∧w'.cell? ⟨b,6,none⟩ = some (.slice a5 n5 p5)∧w'.cell? ⟨b,7,none⟩ = some (.slice a6 n6 p6)∧w'.cell? ⟨b,8,none⟩ = some (.int .i64 most)∧w'.cell? ⟨bp,0,none⟩ = some (.int .i64 pl))
   (first | go_keep | exact hz.out)
   (first
    | (go_at_call 71;with_reducible refine Calls.mono (C48.out _) ?_;rintro e w0 ⟨rfl,rfl⟩)
    | (go_at_call 78;with_reducible refine Calls.mono (Cn.out _ B0.out) ?_;rintro e w1 ⟨rfl,hb1⟩;have B1:=hid (B0.out.trans (hb1.mono B0.out.size));have hz:=hid (ten (hb.out.kept B1.out) (hp.out.kept B1.out)))
    | (go_at_call 78;with_reducible refine Calls.mono (Cp.out _ B1.out) ?_;rintro e w2 ⟨rfl,hb2⟩;have B2:=hid (B1.out.trans (hb2.mono B1.out.size));have hz:=hid (ten (hb.out.kept B2.out) (hp.out.kept B2.out))))
  go_wp2
  go_ret
  exact ⟨retB F.out.symm,B2.out⟩
end Go.Proofs.YtkdpcaoocmbbhaaDoor
