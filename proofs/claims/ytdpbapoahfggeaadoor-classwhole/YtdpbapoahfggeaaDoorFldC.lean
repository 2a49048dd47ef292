/- Contract of fieldsCanBe. -/
import Derived.Test.YtdpbapoahfggeaaDoorM06
import Derived.Test.YtdpbapoahfggeaaDoorSitC
namespace Go.Proofs.YtdpbapoahfggeaaDoor
open Go.ChangeShapes Go.WideShapes Go.ChangeAt Go.RowKit
set_option linter.unusedVariables false
set_option linter.unusedSimpArgs false

def fieldsG (nr ns nc : Nat) (l : List Sec) (th pl : Int) (x : Ins) (hD hS hR hN hT hI hX : Bool) : Bool :=
  fld hD (isIn x.dst ns) (x.dst == 0) && (fld hS (isIn x.src ns) (x.src == 0) && (fld hR (isIn x.rc nr) (x.rc == 0) &&
    ((hN || x.n == 0) && (fld hT (tgtB l th nc pl x.to) (x.to == 0) && (fld hI (goodB ns x.items) (decide (x.items.length = 0)) && fld hX (goodB ns x.index) (decide (x.index.length = 0)))))))
theorem fieldsB_eq (c : Cd) (th : Int) (b : Bd) (pl : Int) (x : Ins) : fieldsB c th b pl x = fieldsG c.recs.length b.slots.length b.code.length c.secs th pl x (hasD x.op) (hasS x.op) (hasR x.op) (hasN x.op) (hasT x.op) (hasI x.op) (hasX x.op) := rfl

set_option maxRecDepth 100000 in
set_option maxHeartbeats 2000000 in
theorem fields_any (hD hS hR hN hT hI hX : Bool) (th pl most : Int) (a0 : Option Addr) (n0 p0 : Nat) (a1 : Option Addr) (n1 p1 : Nat) (a2 : Option Addr) (n2 p2 : Nat) (a3 : Option Addr) (n3 p3 : Nat) (a4 : Option Addr) (n4 p4 : Nat) (a5 : Option Addr) (n5 p5 : Nat) (a6 : Option Addr) (n6 p6 : Nat)
    (a7 : Option Addr) (p7 : Nat) (a8 : Option Addr) (p8 : Nat) (x : Ins) (l : List Sec) (w : World) (hc : Secs w (.slice a4 n4 p4) l) (hn : l.length ≤ 1000000) (hn5 : n5 ≤ 1000000)
    (hx : Items w (.slice a7 x.items.length p7) x.items) (hy : Items w (.slice a8 x.index.length p8) x.index) (hi : x.items.length ≤ 1000000) (hj : x.index.length ≤ 1000000) :
    Calls Tryd.prog 73 #[.agg #[.slice a0 n0 p0, .slice a1 n1 p1, .slice a2 n2 p2, .slice a3 n3 p3, .slice a4 n4 p4, .int .i64 th, .slice a5 n5 p5, .slice a6 n6 p6, .int .i64 most], .agg #[.bool hD, .bool hS, .bool hR, .bool hN, .bool hT, .bool hI, .bool hX], .int .i64 pl, .agg #[.int .i64 x.op, .int .i64 x.dst, .int .i64 x.src, .int .i64 x.rc, .int .i64 x.n, .int .i64 x.to, .slice a7 x.items.length p7, .slice a8 x.index.length p8]] w fun e w' => e = .returned (.bool (fieldsG n0 n5 n6 l th pl x hD hS hR hN hT hI hX)) ∧ Below w.heap.size w w' := by
  have BB := (below2 w (.cells #[.slice a0 n0 p0, .slice a1 n1 p1, .slice a2 n2 p2, .slice a3 n3 p3, .slice a4 n4 p4, .int .i64 th, .slice a5 n5 p5, .slice a6 n6 p6, .int .i64 most] 110) (.cells #[.bool hD, .bool hS, .bool hR, .bool hN, .bool hT, .bool hI, .bool hX] 119)).trans ((below2 (World.alloc (w.alloc (.cells #[.slice a0 n0 p0, .slice a1 n1 p1, .slice a2 n2 p2, .slice a3 n3 p3, .slice a4 n4 p4, .int .i64 th, .slice a5 n5 p5, .slice a6 n6 p6, .int .i64 most] 110)) (.cells #[.bool hD, .bool hS, .bool hR, .bool hN, .bool hT, .bool hI, .bool hX] 119)) (.cells #[.int .i64 pl] 3) (.cells #[.int .i64 x.op, .int .i64 x.dst, .int .i64 x.src, .int .i64 x.rc, .int .i64 x.n, .int .i64 x.to, .slice a7 x.items.length p7, .slice a8 x.index.length p8] 58)).mono (below2 w (.cells #[.slice a0 n0 p0, .slice a1 n1 p1, .slice a2 n2 p2, .slice a3 n3 p3, .slice a4 n4 p4, .int .i64 th, .slice a5 n5 p5, .slice a6 n6 p6, .int .i64 most] 110) (.cells #[.bool hD, .bool hS, .bool hR, .bool hN, .bool hT, .bool hI, .bool hX] 119)).size)
  have KL := ((BoxAt.new w #[.slice a0 n0 p0, .slice a1 n1 p1, .slice a2 n2 p2, .slice a3 n3 p3, .slice a4 n4 p4, .int .i64 th, .slice a5 n5 p5, .slice a6 n6 p6, .int .i64 most] 110).past (.cells #[.bool hD, .bool hS, .bool hR, .bool hN, .bool hT, .bool hI, .bool hX] 119)).past (.cells #[.int .i64 pl] 3) |>.past (.cells #[.int .i64 x.op, .int .i64 x.dst, .int .i64 x.src, .int .i64 x.rc, .int .i64 x.n, .int .i64 x.to, .slice a7 x.items.length p7, .slice a8 x.index.length p8] 58)
  have KF := ((BoxAt.new (w.alloc (.cells #[.slice a0 n0 p0, .slice a1 n1 p1, .slice a2 n2 p2, .slice a3 n3 p3, .slice a4 n4 p4, .int .i64 th, .slice a5 n5 p5, .slice a6 n6 p6, .int .i64 most] 110)) #[.bool hD, .bool hS, .bool hR, .bool hN, .bool hT, .bool hI, .bool hX] 119).past (.cells #[.int .i64 pl] 3)).past (.cells #[.int .i64 x.op, .int .i64 x.dst, .int .i64 x.src, .int .i64 x.rc, .int .i64 x.n, .int .i64 x.to, .slice a7 x.items.length p7, .slice a8 x.index.length p8] 58)
  have KP := (BoxAt.new (World.alloc (w.alloc (.cells #[.slice a0 n0 p0, .slice a1 n1 p1, .slice a2 n2 p2, .slice a3 n3 p3, .slice a4 n4 p4, .int .i64 th, .slice a5 n5 p5, .slice a6 n6 p6, .int .i64 most] 110)) (.cells #[.bool hD, .bool hS, .bool hR, .bool hN, .bool hT, .bool hI, .bool hX] 119)) #[.int .i64 pl] 3).past (.cells #[.int .i64 x.op, .int .i64 x.dst, .int .i64 x.src, .int .i64 x.rc, .int .i64 x.n, .int .i64 x.to, .slice a7 x.items.length p7, .slice a8 x.index.length p8] 58)
  have KX := BoxAt.new (World.alloc (World.alloc (w.alloc (.cells #[.slice a0 n0 p0, .slice a1 n1 p1, .slice a2 n2 p2, .slice a3 n3 p3, .slice a4 n4 p4, .int .i64 th, .slice a5 n5 p5, .slice a6 n6 p6, .int .i64 most] 110)) (.cells #[.bool hD, .bool hS, .bool hR, .bool hN, .bool hT, .bool hI, .bool hX] 119)) (.cells #[.int .i64 pl] 3)) #[.int .i64 x.op, .int .i64 x.dst, .int .i64 x.src, .int .i64 x.rc, .int .i64 x.n, .int .i64 x.to, .slice a7 x.items.length p7, .slice a8 x.index.length p8] 58
  simp only [World.size_alloc] at KF KP KX
  replace hc := Secs.kept hc BB
  replace hx := Items.kept hx BB
  replace hy := Items.kept hy BB
  have key : ∀ W0 : World, BoxAt W0 w.heap.size (#[.slice a0 n0 p0, .slice a1 n1 p1, .slice a2 n2 p2, .slice a3 n3 p3, .slice a4 n4 p4, .int .i64 th, .slice a5 n5 p5, .slice a6 n6 p6, .int .i64 most]).toList → BoxAt W0 (w.heap.size + 1 + 1) (#[.int .i64 pl]).toList → Secs W0 (.slice a4 n4 p4) l → Items W0 (.slice a7 x.items.length p7) x.items → Items W0 (.slice a8 x.index.length p8) x.index →
      (∀ W, Below W0.heap.size W0 W → Calls Tryd.prog 80 #[.bool hD, .int .i64 x.dst, .func (.func 76) #[] #[.pointer (some ⟨w.heap.size, 0, none⟩)]] W fun e w' => e = .returned (.bool (fld hD (isIn x.dst n5) (x.dst == 0))) ∧ Below W.heap.size W w') ∧
      (∀ W, Below W0.heap.size W0 W → Calls Tryd.prog 80 #[.bool hS, .int .i64 x.src, .func (.func 76) #[] #[.pointer (some ⟨w.heap.size, 0, none⟩)]] W fun e w' => e = .returned (.bool (fld hS (isIn x.src n5) (x.src == 0))) ∧ Below W.heap.size W w') ∧
      (∀ W, Below W0.heap.size W0 W → Calls Tryd.prog 80 #[.bool hR, .int .i64 x.rc, .func (.func 78) #[] #[.pointer (some ⟨w.heap.size, 0, none⟩)]] W fun e w' => e = .returned (.bool (fld hR (isIn x.rc n0) (x.rc == 0))) ∧ Below W.heap.size W w') ∧
      (∀ W, Below W0.heap.size W0 W → Calls Tryd.prog 80 #[.bool hT, .int .i64 x.to, .func (.func 79) #[] #[.pointer (some ⟨w.heap.size, 0, none⟩), .pointer (some ⟨w.heap.size + 1 + 1, 0, none⟩)]] W fun e w' => e = .returned (.bool (fld hT (tgtB l th n6 pl x.to) (x.to == 0))) ∧ Below W.heap.size W w') ∧
      (∀ W, Below W0.heap.size W0 W → Calls Tryd.prog 81 #[.bool hI, .slice a7 x.items.length p7, .pointer (some ⟨w.heap.size, 0, none⟩)] W fun e w' => e = .returned (.bool (fld hI (goodB n5 x.items) (decide (x.items.length = 0)))) ∧ Below W.heap.size W w') ∧
      (∀ W, Below W0.heap.size W0 W → Calls Tryd.prog 81 #[.bool hX, .slice a8 x.index.length p8, .pointer (some ⟨w.heap.size, 0, none⟩)] W fun e w' => e = .returned (.bool (fld hX (goodB n5 x.index) (decide (x.index.length = 0)))) ∧ Below W.heap.size W w') := fun W0 KL KP hc hx hy =>
    ⟨fun W h => number58 hD _ x.dst _ W (fun W' h' => slotOk_any _ x.dst a5 n5 p5 _ _ _ _ _ _ _ _ W' ((KL.kept h).kept h')),
     fun W h => number58 hS _ x.src _ W (fun W' h' => slotOk_any _ x.src a5 n5 p5 _ _ _ _ _ _ _ _ W' ((KL.kept h).kept h')),
     fun W h => number60 hR _ x.rc _ W (fun W' h' => recOk_any _ x.rc a0 n0 p0 _ _ _ _ _ _ _ _ W' ((KL.kept h).kept h')),
     fun W h => number61 hT _ x.to _ _ W (fun W' h' => target_any _ _ th x.to pl a0 n0 p0 a1 n1 p1 a2 n2 p2 a3 n3 p3 a4 n4 p4 a5 n5 p5 a6 n6 p6 most l W' (Secs.kept (Secs.kept hc h) h') hn ((KL.kept h).kept h') ((KP.kept h).kept h')),
     fun W h => row_any hI _ x.items _ a5 n5 p5 _ _ _ _ _ _ _ _ W (Items.kept hx h) hi hn5 (KL.kept h),
     fun W h => row_any hX _ x.index _ a5 n5 p5 _ _ _ _ _ _ _ _ W (Items.kept hy h) hj hn5 (KL.kept h)⟩
  obtain ⟨D1, D2, D3, D5, D6, D7⟩ := key _ KL KP hc hx hy
  clear key hc hx hy KL KP
  have F := hid (show ∀ r1 r2 r3 r5 r6 r7, r1 = fld hD (isIn x.dst n5) (x.dst == 0) → r2 = fld hS (isIn x.src n5) (x.src == 0) → r3 = fld hR (isIn x.rc n0) (x.rc == 0) → r5 = fld hT (tgtB l th n6 pl x.to) (x.to == 0) → r6 = fld hI (goodB n5 x.items) (decide (x.items.length = 0)) → r7 = fld hX (goodB n5 x.index) (decide (x.index.length = 0)) →
      fieldsG n0 n5 n6 l th pl x hD hS hR hN hT hI hX = (r1 && (r2 && (r3 && ((hN || x.n == 0) && (r5 && (r6 && r7)))))) from by intro r1 r2 r3 r5 r6 r7 e1 e2 e3 e5 e6 e7; subst e1 e2 e3 e5 e6 e7; rfl)
  replace F := hid (F.out _ _ _ _ _ _ rfl rfl rfl rfl rfl rfl)
  generalize fld hD (isIn x.dst n5) (x.dst == 0) = r1 at *
  generalize fld hS (isIn x.src n5) (x.src == 0) = r2 at *
  generalize fld hR (isIn x.rc n0) (x.rc == 0) = r3 at *
  generalize fld hT (tgtB l th n6 pl x.to) (x.to == 0) = r5 at *
  generalize fld hI (goodB n5 x.items) (decide (x.items.length = 0)) = r6 at *
  generalize fld hX (goodB n5 x.index) (decide (x.index.length = 0)) = r7 at *
  generalize fieldsG n0 n5 n6 l th pl x hD hS hR hN hT hI hX = rr at *
  replace D1 := hid D1
  replace D2 := hid D2
  replace D3 := hid D3
  replace D5 := hid D5
  replace D6 := hid D6
  replace D7 := hid D7
  replace KF := hid KF
  replace KX := hid KX
  replace BB := hid BB
  have B := hid (Below.refl (World.heap (World.alloc (World.alloc (World.alloc (w.alloc (.cells #[.slice a0 n0 p0, .slice a1 n1 p1, .slice a2 n2 p2, .slice a3 n3 p3, .slice a4 n4 p4, .int .i64 th, .slice a5 n5 p5, .slice a6 n6 p6, .int .i64 most] 110)) (.cells #[.bool hD, .bool hS, .bool hR, .bool hN, .bool hT, .bool hI, .bool hX] 119)) (.cells #[.int .i64 pl] 3)) (.cells #[.int .i64 x.op, .int .i64 x.dst, .int .i64 x.src, .int .i64 x.rc, .int .i64 x.n, .int .i64 x.to, .slice a7 x.items.length p7, .slice a8 x.index.length p8] 58))).size (World.alloc (World.alloc (World.alloc (w.alloc (.cells #[.slice a0 n0 p0, .slice a1 n1 p1, .slice a2 n2 p2, .slice a3 n3 p3, .slice a4 n4 p4, .int .i64 th, .slice a5 n5 p5, .slice a6 n6 p6, .int .i64 most] 110)) (.cells #[.bool hD, .bool hS, .bool hR, .bool hN, .bool hT, .bool hI, .bool hX] 119)) (.cells #[.int .i64 pl] 3)) (.cells #[.int .i64 x.op, .int .i64 x.dst, .int .i64 x.src, .int .i64 x.rc, .int .i64 x.n, .int .i64 x.to, .slice a7 x.items.length p7, .slice a8 x.index.length p8] 58)))
  go_enter Tryd.func73, Tryd.ntmps73
  go_wp2_with fail
  refine Calls.mono (D1.out _ B.out) ?_
  rintro e w1 ⟨rfl, hb⟩
  replace B := hid (B.out.trans (hb.mono B.out.size))
  clear hb D1 
  have f1 := (KF.out.kept B.out).2 1 _ rfl
  have x2 := (KX.out.kept B.out).2 2 _ rfl
  cases r1
  · have G : Hid (rr = false) := hid (by rw [F.out]; rfl)
    clear F D2 D3 D5 D6 D7
    go_wp2
    go_ret
    exact ⟨retB G.out.symm, BB.out.trans (B.out.mono BB.out.size)⟩
  have F1 : Hid (rr = (r2 && (r3 && ((hN || x.n == 0) && (r5 && (r6 && r7)))))) := hid (by rw [F.out]; rfl)
  replace F := F1
  clear F1
  go_wp2_with fail
  refine Calls.mono (D2.out _ B.out) ?_
  rintro e w2 ⟨rfl, hb⟩
  replace B := hid (B.out.trans (hb.mono B.out.size))
  clear hb D2 f1 x2
  have f2 := (KF.out.kept B.out).2 2 _ rfl
  have x3 := (KX.out.kept B.out).2 3 _ rfl
  cases r2
  · have G : Hid (rr = false) := hid (by rw [F.out]; rfl)
    clear F D3 D5 D6 D7
    go_wp2
    go_ret
    exact ⟨retB G.out.symm, BB.out.trans (B.out.mono BB.out.size)⟩
  have F2 : Hid (rr = (r3 && ((hN || x.n == 0) && (r5 && (r6 && r7))))) := hid (by rw [F.out]; rfl)
  replace F := F2
  clear F2
  go_wp2_with fail
  refine Calls.mono (D3.out _ B.out) ?_
  rintro e w3 ⟨rfl, hb⟩
  replace B := hid (B.out.trans (hb.mono B.out.size))
  clear hb D3 f2 x3
  have f3 := (KF.out.kept B.out).2 3 _ rfl
  have f4 := (KF.out.kept B.out).2 4 _ rfl
  have x4 := (KX.out.kept B.out).2 4 _ rfl
  have x5 := (KX.out.kept B.out).2 5 _ rfl
  cases r3
  · have G : Hid (rr = false) := hid (by rw [F.out]; rfl)
    clear F D5 D6 D7
    go_wp2
    go_ret
    exact ⟨retB G.out.symm, BB.out.trans (B.out.mono BB.out.size)⟩
  have F3 : Hid (rr = ((hN || x.n == 0) && (r5 && (r6 && r7)))) := hid (by rw [F.out]; rfl)
  replace F := F3
  clear F3
  have G4 : hN = true ∨ (hN = false ∧ (x.n == 0) = true) ∨ (hN = false ∧ (x.n == 0) = false) := by cases hN <;> cases (x.n == 0) <;> simp
  rcases G4 with rfl | ⟨rfl, h0⟩ | ⟨rfl, h0⟩
  · have F4 : Hid (rr = (r5 && (r6 && r7))) := hid (by rw [F.out]; rfl)
    replace F := F4
    clear F4
    go_wp2_with fail
    refine Calls.mono (D5.out _ B.out) ?_
    rintro e w5 ⟨rfl, hb⟩
    replace B := hid (B.out.trans (hb.mono B.out.size))
    clear hb D5 f3 f4 x4 x5
    have f5 := (KF.out.kept B.out).2 5 _ rfl
    have x6 := (KX.out.kept B.out).2 6 _ rfl
    cases r5
    · have G : Hid (rr = false) := hid (by rw [F.out]; rfl)
      clear F D6 D7
      go_wp2
      go_ret
      exact ⟨retB G.out.symm, BB.out.trans (B.out.mono BB.out.size)⟩
    have F5 : Hid (rr = (r6 && r7)) := hid (by rw [F.out]; rfl)
    replace F := F5
    clear F5
    go_wp2_with fail
    refine Calls.mono (D6.out _ B.out) ?_
    rintro e w6 ⟨rfl, hb⟩
    replace B := hid (B.out.trans (hb.mono B.out.size))
    clear hb D6 f5 x6
    have f6 := (KF.out.kept B.out).2 6 _ rfl
    have x7 := (KX.out.kept B.out).2 7 _ rfl
    cases r6
    · have G : Hid (rr = false) := hid (by rw [F.out]; rfl)
      clear F D7
      go_wp2
      go_ret
      exact ⟨retB G.out.symm, BB.out.trans (B.out.mono BB.out.size)⟩
    have F6 : Hid (rr = (r7)) := hid (by rw [F.out]; rfl)
    replace F := F6
    clear F6
    go_wp2_with fail
    refine Calls.mono (D7.out _ B.out) ?_
    rintro e w7 ⟨rfl, hb⟩
    replace B := hid (B.out.trans (hb.mono B.out.size))
    clear hb D7 f6 x7
    go_wp2
    go_ret
    exact ⟨retB F.out.symm, BB.out.trans (B.out.mono BB.out.size)⟩
  · have F4 : Hid (rr = (r5 && (r6 && r7))) := hid (by rw [F.out, h0]; rfl)
    replace F := F4
    clear F4
    go_wp2_with fail
    refine Calls.mono (D5.out _ B.out) ?_
    rintro e w5 ⟨rfl, hb⟩
    replace B := hid (B.out.trans (hb.mono B.out.size))
    clear hb D5 f3 f4 x4 x5
    have f5 := (KF.out.kept B.out).2 5 _ rfl
    have x6 := (KX.out.kept B.out).2 6 _ rfl
    cases r5
    · have G : Hid (rr = false) := hid (by rw [F.out]; rfl)
      clear F D6 D7
      go_wp2
      go_ret
      exact ⟨retB G.out.symm, BB.out.trans (B.out.mono BB.out.size)⟩
    have F5 : Hid (rr = (r6 && r7)) := hid (by rw [F.out]; rfl)
    replace F := F5
    clear F5
    go_wp2_with fail
    refine Calls.mono (D6.out _ B.out) ?_
    rintro e w6 ⟨rfl, hb⟩
    replace B := hid (B.out.trans (hb.mono B.out.size))
    clear hb D6 f5 x6
    have f6 := (KF.out.kept B.out).2 6 _ rfl
    have x7 := (KX.out.kept B.out).2 7 _ rfl
    cases r6
    · have G : Hid (rr = false) := hid (by rw [F.out]; rfl)
      clear F D7
      go_wp2
      go_ret
      exact ⟨retB G.out.symm, BB.out.trans (B.out.mono BB.out.size)⟩
    have F6 : Hid (rr = (r7)) := hid (by rw [F.out]; rfl)
    replace F := F6
    clear F6
    go_wp2_with fail
    refine Calls.mono (D7.out _ B.out) ?_
    rintro e w7 ⟨rfl, hb⟩
    replace B := hid (B.out.trans (hb.mono B.out.size))
    clear hb D7 f6 x7
    go_wp2
    go_ret
    exact ⟨retB F.out.symm, BB.out.trans (B.out.mono BB.out.size)⟩
  · have G : Hid (rr = false) := hid (by rw [F.out, h0]; rfl)
    clear F D5 D6 D7
    go_wp2
    go_ret
    exact ⟨retB G.out.symm, BB.out.trans (B.out.mono BB.out.size)⟩
end Go.Proofs.YtdpbapoahfggeaaDoor
