/- A token in a block of its own, and the contracts of lex's intOf, realOf and first. -/
import Derived.Test.YtdankjkmgcclhaaDoorSign
import Derived.Test.YtdankjkmgcclhaaDoorHex
import Derived.Test.YtdankjkmgcclhaaDoorWord
namespace Go.Proofs.YtdankjkmgcclhaaDoor
open Go.ChangeShapes Go.WideShapes Go.ChangeAt Go.RowKit
set_option linter.unusedVariables false

/-- A block of type t holds these cells. -/
def Blk (w : World) (b : Nat) (cs : Array Value) (t : TypeId) : Prop := w.heap[b]? = some (.cells cs t (0, 0))

theorem Blk.cell {w : World} {b : Nat} {cs : Array Value} {t : TypeId} (h : Blk w b cs t) (j : Nat) : w.cell? ⟨b, j, none⟩ = cs[j]? := cell_of_row w b j cs t _ h
theorem Blk.frozen {w : World} {b : Nat} {cs : Array Value} {t : TypeId} (h : Blk w b cs t) (j : Nat) : w.frozen? ⟨b, j, none⟩ = false := by
  have h : w.heap[b]? = some (.cells cs t (0, 0)) := h
  simp [World.frozen?, h]
theorem Blk.lt {w : World} {b : Nat} {cs : Array Value} {t : TypeId} (h : Blk w b cs t) : b < w.heap.size := (Array.getElem?_eq_some_iff.1 h).1
theorem Blk.kept {w w' : World} {b : Nat} {cs : Array Value} {t : TypeId} (h : Blk w b cs t) (k : Below w.heap.size w w') : Blk w' b cs t := (k.block b h.lt).trans h
theorem Blk.set {w : World} {b : Nat} {cs : Array Value} {t : TypeId} (h : Blk w b cs t) (j : Nat) (v : Value) : Blk (w.setCell ⟨b, j, none⟩ v) b (cs.setIfInBounds j v) t := by
  have h : w.heap[b]? = some (.cells cs t (0, 0)) := h
  simp only [Blk, World.setCell, Array.getElem?_modify]
  simp [h]
theorem Blk.new (w : World) (cs : Array Value) (t : TypeId) : Blk (w.alloc (.cells cs t)) w.heap.size cs t := heap_alloc_new _ _

/-- The whole number that letters are. -/
def intN (l : List UInt8) : Option Nat := match decF 0 l with
  | none => none
  | some n => if l.head? = some 48 ∧ l ≠ [48] then none else some n

/-- A token, and that it is one; or none. -/
def okV (k : Nat) (t : List UInt8) (n : Nat) : Value := .tuple #[tokV k t n 0 0, .bool true]
def noV : Value := .tuple #[tokV 0 [] 0 0 0, .bool false]
def intV (l : List UInt8) : Value := match intN l with | some n => okV 3 l n | none => noV

/-- What a call finds in its own block behind a callee, for the walk to take. -/
theorem own5 {w w' : World} {a0 a1 a2 a3 a4 : Value} (hb : Below (w.alloc (.cells #[a0, a1, a2, a3, a4] 35)).heap.size (w.alloc (.cells #[a0, a1, a2, a3, a4] 35)) w') :
    Blk w' w.heap.size #[a0, a1, a2, a3, a4] 35 ∧
    (w'.cell? ⟨w.heap.size, 0, none⟩ = some a0 ∧ w'.cell? ⟨w.heap.size, 1, none⟩ = some a1 ∧ w'.cell? ⟨w.heap.size, 2, none⟩ = some a2 ∧ w'.cell? ⟨w.heap.size, 3, none⟩ = some a3 ∧ w'.cell? ⟨w.heap.size, 4, none⟩ = some a4) ∧
    (∀ j, w'.frozen? ⟨w.heap.size, j, none⟩ = false) ∧ Below w.heap.size w w' := by
  have k := (Blk.new w #[a0, a1, a2, a3, a4] 35).kept hb
  exact ⟨k, ⟨k.cell 0, k.cell 1, k.cell 2, k.cell 3, k.cell 4⟩, fun j => k.frozen j, Below.over ((Below.refl _ _).alloc (Nat.le_refl _) _) hb⟩

/-- Behind the five stores. -/
theorem Blk.set5 {w : World} {b : Nat} {a0 a1 a2 a3 a4 : Value} (h : Blk w b #[a0, a1, a2, a3, a4] 35) (b0 b1 b2 b3 b4 : Value) :
    Blk (((((w.setCell ⟨b, 0, none⟩ b0).setCell ⟨b, 1, none⟩ b1).setCell ⟨b, 2, none⟩ b2).setCell ⟨b, 3, none⟩ b3).setCell ⟨b, 4, none⟩ b4) b #[b0, b1, b2, b3, b4] 35 :=
  ((((h.set 0 b0).set 1 b1).set 2 b2).set 3 b3).set 4 b4
theorem below_set5 {B : Nat} {w0 w : World} {b : Nat} (h : Below B w0 w) (hB : B ≤ b) (b0 b1 b2 b3 b4 : Value) :
    Below B w0 (((((w.setCell ⟨b, 0, none⟩ b0).setCell ⟨b, 1, none⟩ b1).setCell ⟨b, 2, none⟩ b2).setCell ⟨b, 3, none⟩ b3).setCell ⟨b, 4, none⟩ b4) :=
  ((((h.setCell (p := ⟨b, 0, none⟩) hB b0).setCell (p := ⟨b, 1, none⟩) hB b1).setCell (p := ⟨b, 2, none⟩) hB b2).setCell (p := ⟨b, 3, none⟩) hB b3).setCell (p := ⟨b, 4, none⟩) hB b4

set_option maxRecDepth 100000 in
set_option maxHeartbeats 2000000 in
theorem intOf_any (l : List UInt8) (h0 : l ≠ []) (hl : l.length < 281474976710656) (w : World) (h : Errs w) :
    Calls Tryd.prog 33 #[.string (bstr l)] w fun e w' => e = .returned (intV l) ∧ Below w.heap.size w w' := by
  have C := fun o => parse10_any l h0 hl (w.alloc o) (h.kept ((Below.refl _ _).alloc (Nat.le_refl _) _))
  cases hd : decF 0 l with
  | none =>
    rw [hd] at C
    have F : Hid (intV l = noV) := hid (by simp [intV, intN, hd])
    go_enter Tryd.func33, Tryd.ntmps33
    go_wp2_with fail
    refine (C _).mono ?_
    rintro e w' ⟨v, rfl, ⟨x, t, p, hv⟩, hb⟩
    subst hv
    obtain ⟨k1, ⟨c0, c1, c2, c3, c4⟩, hf, kb1⟩ := own5 hb
    have k0 := hid k1
    have kb := hid kb1
    clear hb k1 kb1
    go_wp2
    try simp only [Exit.inBlock, Exit.then]
    refine bodyPost_ret (results_row_tmp (P := Tryd.prog) rfl _ _ w.heap.size _ _ _ _ rfl (k0.out.set5 _ _ _ _ _) Tryd.underlying35 rfl (by kernel_rfl)) rfl ?_
    exact ⟨by rw [F.out]; rfl, below_set5 kb.out (Nat.le_refl _) _ _ _ _ _⟩
  | some n =>
    rw [hd] at C
    obtain ⟨c, r, rfl⟩ : ∃ c r, l = c :: r := by cases l with
      | nil => exact absurd rfl h0
      | cons c r => exact ⟨c, r, rfl⟩
    have s1 := bstr_size (c :: r)
    have s2 : 0 < (bstr (c :: r)).size := by rw [s1]; simp
    have tl := toList_bstr (c :: r)
    have g0 : (bstr (c :: r))[0]'s2 = c := get_bstr (c :: r) 0 (by simp) s2
    have W : ∀ o, Calls Tryd.prog 46 #[.string (bstr (c :: r)), .int .i64 10, .int .i64 63] (w.alloc o) fun e w' => e = .returned (.tuple #[.int .u64 n, .nilIface]) ∧ Below (w.alloc o).heap.size (w.alloc o) w' := fun o => (C o).mono (by
      rintro e w' ⟨v, rfl, hv, hb⟩
      subst hv
      exact ⟨rfl, hb⟩)
    clear C
    by_cases hc : c = 48
    · by_cases hr : r = []
      · have F : Hid (intV (c :: r) = okV 3 (c :: r) n) := hid (by
          have : intN (c :: r) = some n := by rw [intN, hd]; simp [hc, hr]
          rw [intV, this])
        have t1 : ((c.toNat : Int) == 48) = true := by rw [hc]; rfl
        have t2 : ((bstr (c :: r)).toList == [48]) = true := by rw [tl, hc, hr]; rfl
        clear tl hd hc hr
        go_enter Tryd.func33, Tryd.ntmps33
        go_wp2_with fail
        refine (W _).mono ?_
        rintro e w' ⟨rfl, hb⟩
        obtain ⟨k1, ⟨c0, c1, c2, c3, c4⟩, hf, kb1⟩ := own5 hb
        have k0 := hid k1
        have kb := hid kb1
        clear hb k1 kb1
        go_wp2
        try simp only [Exit.inBlock, Exit.then]
        refine bodyPost_ret (results_row_tmp (P := Tryd.prog) rfl _ _ w.heap.size _ _ _ _ rfl (k0.out.set5 _ _ _ _ _) Tryd.underlying35 rfl (by kernel_rfl)) rfl ?_
        exact ⟨by rw [F.out]; rfl, below_set5 kb.out (Nat.le_refl _) _ _ _ _ _⟩
      · have F : Hid (intV (c :: r) = noV) := hid (by
          have : intN (c :: r) = none := by rw [intN, hd]; simp [hc, hr]
          rw [intV, this])
        have t1 : ((c.toNat : Int) == 48) = true := by rw [hc]; rfl
        have t2 : ((bstr (c :: r)).toList == [48]) = false := by rw [tl, hc]; cases r; exact absurd rfl hr; rfl
        clear tl hd hc hr
        go_enter Tryd.func33, Tryd.ntmps33
        go_wp2_with fail
        refine (W _).mono ?_
        rintro e w' ⟨rfl, hb⟩
        obtain ⟨k1, ⟨c0, c1, c2, c3, c4⟩, hf, kb1⟩ := own5 hb
        have k0 := hid k1
        have kb := hid kb1
        clear hb k1 kb1
        go_wp2
        try simp only [Exit.inBlock, Exit.then]
        refine bodyPost_ret (results_row_tmp (P := Tryd.prog) rfl _ _ w.heap.size _ _ _ _ rfl (k0.out.set5 _ _ _ _ _) Tryd.underlying35 rfl (by kernel_rfl)) rfl ?_
        exact ⟨by rw [F.out]; rfl, below_set5 kb.out (Nat.le_refl _) _ _ _ _ _⟩
    · have F : Hid (intV (c :: r) = okV 3 (c :: r) n) := hid (by
        have : intN (c :: r) = some n := by rw [intN, hd]; simp [hc]
        rw [intV, this])
      have t1 : ((c.toNat : Int) == 48) = false := by
        rw [beq_eq_false_iff_ne]
        intro e
        exact hc (UInt8.toNat_inj.1 (by have : c.toNat = 48 := by omega
                                        rw [this]; rfl))
      clear tl hd
      go_enter Tryd.func33, Tryd.ntmps33
      go_wp2_with fail
      refine (W _).mono ?_
      rintro e w' ⟨rfl, hb⟩
      obtain ⟨k1, ⟨c0, c1, c2, c3, c4⟩, hf, kb1⟩ := own5 hb
      have k0 := hid k1
      have kb := hid kb1
      clear hb k1 kb1
      go_wp2
      try simp only [Exit.inBlock, Exit.then]
      refine bodyPost_ret (results_row_tmp (P := Tryd.prog) rfl _ _ w.heap.size _ _ _ _ rfl (k0.out.set5 _ _ _ _ _) Tryd.underlying35 rfl (by kernel_rfl)) rfl ?_
      exact ⟨by rw [F.out]; rfl, below_set5 kb.out (Nat.le_refl _) _ _ _ _ _⟩

/-- The real that letters, the first one a sign of its own, are. -/
def realV (l : List UInt8) : Value := if (l.drop 1).length = 16 ∧ (l.drop 1).all isHex = true then okV 4 l (hexF 0 (l.drop 1)) else noV

set_option maxRecDepth 100000 in
set_option maxHeartbeats 2000000 in
theorem realOf_any (l : List UInt8) (h0 : 1 ≤ l.length) (hl : l.length < 281474976710656) (w : World) :
    Calls Tryd.prog 30 #[.string (bstr l)] w fun e w' => e = .returned (realV l) ∧ Below w.heap.size w w' := by
  have s1 := bstr_size l
  have hx := extract_bstr l 1 l.length rfl
  have s2 := bstr_size (l.drop 1)
  have A : ∀ W, Calls Tryd.prog 22 #[.string (bstr (l.drop 1)), .func (.func 45) #[] #[]] W fun e w' => e = .returned (.bool ((l.drop 1).all isHex)) ∧ Below W.heap.size W w' := fun W => by
    have := all_hex (bstr (l.drop 1)) W
    rwa [bstr_list] at this
  have P16 := fun (h : (l.drop 1).length = 16) hx W => parse16_any (l.drop 1) h hx W
  have D : Hid (realV l = if (l.drop 1).length = 16 ∧ (l.drop 1).all isHex = true then okV 4 l (hexF 0 (l.drop 1)) else noV) := hid rfl
  have AH : Hid ((l.drop 1).all isHex = true → ∀ i, (hi : i < (l.drop 1).length) → isHex ((l.drop 1)[i]) = true) := hid (fun h i hi => List.all_eq_true.1 h _ (List.getElem_mem hi))
  generalize hd : l.drop 1 = d at *
  clear hd
  by_cases h16 : d.length = 16
  · cases ha : d.all isHex
    · have F : Hid (realV l = noV) := hid (by rw [D.out, ha]; simp)
      have n16 : ((d.length : Int) == 16) = true := by rw [h16]; rfl
      rw [ha] at A
      clear P16 D AH
      go_enter Tryd.func30, Tryd.ntmps30
      go_wp2_with fail
      refine (A _).mono ?_
      rintro e w' ⟨rfl, hb⟩
      obtain ⟨k1, ⟨c0, c1, c2, c3, c4⟩, hf, kb1⟩ := own5 hb
      have k0 := hid k1
      have kb := hid kb1
      clear hb k1 kb1
      go_wp2
      try simp only [Exit.inBlock, Exit.then]
      refine bodyPost_ret (results_row_tmp (P := Tryd.prog) rfl _ _ w.heap.size _ _ _ _ rfl (k0.out.set5 _ _ _ _ _) Tryd.underlying35 rfl (by kernel_rfl)) rfl ?_
      exact ⟨by rw [F.out]; rfl, below_set5 kb.out (Nat.le_refl _) _ _ _ _ _⟩
    · have F : Hid (realV l = okV 4 l (hexF 0 d)) := hid (by rw [D.out, ha]; simp [h16])
      have B := P16 h16 (AH.out ha)
      rw [ha] at A
      generalize hexF 0 d = n at B F
      clear P16 D AH
      go_enter Tryd.func30, Tryd.ntmps30
      go_wp2_with fail
      refine (A _).mono ?_
      rintro e w1 ⟨rfl, hb1⟩
      go_wp2_with fail
      refine (B _).mono ?_
      rintro e w' ⟨rfl, hb2⟩
      have hb := Below.over hb1 hb2
      clear hb1 hb2
      obtain ⟨k1, ⟨c0, c1, c2, c3, c4⟩, hf, kb1⟩ := own5 hb
      have k0 := hid k1
      have kb := hid kb1
      clear hb k1 kb1
      go_wp2
      try simp only [Exit.inBlock, Exit.then]
      refine bodyPost_ret (results_row_tmp (P := Tryd.prog) rfl _ _ w.heap.size _ _ _ _ rfl (k0.out.set5 _ _ _ _ _) Tryd.underlying35 rfl (by kernel_rfl)) rfl ?_
      exact ⟨by rw [F.out]; rfl, below_set5 kb.out (Nat.le_refl _) _ _ _ _ _⟩
  · have F : Hid (realV l = noV) := hid (by rw [D.out]; simp [h16])
    clear P16 D AH A
    go_enter Tryd.func30, Tryd.ntmps30
    go_wp2
    try simp only [Exit.inBlock, Exit.then]
    refine bodyPost_ret (results_row_tmp (P := Tryd.prog) rfl _ _ w.heap.size _ _ _ _ rfl (heap_alloc_new _ _) Tryd.underlying35 rfl (by kernel_rfl)) rfl ?_
    exact ⟨by rw [F.out]; rfl, (Below.refl _ _).alloc (Nat.le_refl _) _⟩
end Go.Proofs.YtdankjkmgcclhaaDoor
