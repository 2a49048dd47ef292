/- The contracts of the library's functions that make an error of a numeral. -/
import Derived.Test.YtdankjkmgcclhaaDoorRow
import Derived.Lib.BufferWrite
import Derived.Lib.UnsafeStr
import Derived.Lib.IfaceEq
import Derived.Lib.AtoiErrMem
import Derived.Deep.RegionWith
namespace Go.Proofs.YtdankjkmgcclhaaDoor
open Go.ChangeShapes Go.WideShapes Go.ChangeAt Go.RowKit
set_option linter.unusedVariables false

/-- What the two variables of the library hold: errors. -/
structure Errs (w : World) : Prop where
  syn : ∃ t p, w.cell? ⟨2, 0, none⟩ = some (.iface t p)
  rng : ∃ t p, w.cell? ⟨3, 0, none⟩ = some (.iface t p)

theorem lt_of_cell {w : World} {b o : Nat} {v : Value} (h : w.cell? ⟨b, o, none⟩ = some v) : b < w.heap.size := Lib.lt_of_cell h

theorem Errs.kept {w w' : World} (h : Errs w) (b : Below w.heap.size w w') : Errs w' := by
  obtain ⟨⟨t, p, h1⟩, ⟨t', p', h2⟩⟩ := h
  exact ⟨⟨t, p, (b.cell (p := ⟨2, 0, none⟩) (lt_of_cell h1)).trans h1⟩, ⟨t', p', (b.cell (p := ⟨3, 0, none⟩) (lt_of_cell h2)).trans h2⟩⟩

theorem info5 : (Tryd.prog.info? 5).map (fun i => (i.zero, i.size, i.bytes)) = some (some (.int .u8 0), 1, 1) := by kernel_rfl
theorem under82 : Tryd.prog.underlying 82 = some (.pointer 5) := by kernel_rfl

set_option maxHeartbeats 4000000 in
set_option maxRecDepth 100000 in
theorem clone_any (s : ByteArray) (hs : s.size ≤ 281474976710656) (w : World) : Calls Tryd.prog 63 #[.string s] w fun e w' => e = .returned (.string s) ∧ Below w.heap.size w w' := by
  by_cases h0 : s.size = 0
  · obtain rfl : s = ⟨#[]⟩ := ByteArray.ext (Array.eq_empty_of_size_eq_zero h0)
    go_enter Tryd.func63, Tryd.ntmps63
    go_wp2
    go_ret
    exact ⟨rfl, Below.refl _ _⟩
  · obtain ⟨i, hi, z0, z1, z2⟩ := info_parts info5
    have hsz : (Tryd.prog.info? 5).map (·.size) = some 1 := by rw [hi]; simp [z1]
    have hco : Tryd.prog.cellsOf 5 = 1 := by simp [Program.cellsOf, hi, z1]
    obtain ⟨M, hM⟩ : ∃ M, M = madeCells (Value.int .u8 0).cells (((s.size : Nat) : Int).toNat * i.size) := ⟨_, rfl⟩
    have hMs : M.size = s.size := by rw [hM, size_madeCells, z1]; simp
    have hmake : ∀ W : World, (Instr.makeSlice 70 (.int .i64 (s.size : Int)) (.int .i64 (s.size : Int))).run Tryd.prog W = .ok (.slice (some ⟨W.heap.size, 0, none⟩) s.size s.size) (W.alloc (.cells M 5)) := fun W => by
      have h := run_make (P := Tryd.prog) W 70 5 i (.int .u8 0) Tryd.underlying70 hi z0 .i64 .i64 (s.size : Int) (s.size : Int) (by omega) (by omega) (by rw [z2]; omega) (by omega)
      rw [← hM] at h
      simpa using h
    clear hM
    have hcopy := Lib.run_copy_row_string (P := Tryd.prog) (w.alloc (.cells M 5)) 70 9 3 5 w.heap.size 0 s.size s.size s M 5 Tryd.underlying70 hsz (heap_alloc_new w _) (Nat.le_refl _) (by omega)
    obtain ⟨Y, hY⟩ : ∃ Y, Y = (M.toList.take 0 ++ Lib.byteCells s.data.toList ++ M.toList.drop (0 + s.size)).toArray := ⟨_, rfl⟩
    rw [← hY] at hcopy
    have hYl : Y.toList = Lib.byteCells s.data.toList := by
      rw [hY, List.toList_toArray, List.take_zero, List.nil_append, List.drop_of_length_le (by rw [Array.length_toList]; omega), List.append_nil]
    have hYs : Y.size = s.size := by rw [← Array.length_toList, hYl, Lib.byteCells_length, ← Lib.size_eq]
    have hg : ((w.alloc (.cells M 5)).setRow w.heap.size Y).heap[w.heap.size]? = some (.cells Y 5 (0, 0)) := setRow_heap _ _ M _ 5 (0, 0) (heap_alloc_new w _)
    have hne : s.data.toList ≠ [] := fun e => h0 (by rw [Lib.size_eq, e]; rfl)
    have hstr := Lib.run_unsafeString_row (P := Tryd.prog) ((w.alloc (.cells M 5)).setRow w.heap.size Y) 82 3 9 5 under82 hco w.heap.size Y.size (by unfold World.shape?; rw [hg]) s.data.toList hne (by rw [← Lib.size_eq]; omega) (by rw [← Lib.size_eq]; omega)
      (fun j x hx => Lib.cells_of_row hg Y.size j _ (by rw [List.take_of_length_le (by rw [Array.length_toList]; exact Nat.le_refl _), hYl]; simp [Lib.byteCells, hx]))
    rw [← Lib.size_eq] at hstr
    clear hY
    go_enter Tryd.func63, Tryd.ntmps63
    go_wp2
    go_ret
    have b1 : Below w.heap.size w (w.alloc (.cells M 5)) := (Below.refl _ w).alloc (Nat.le_refl _) _
    have b2 : Below w.heap.size (w.alloc (.cells M 5)) ((w.alloc (.cells M 5)).setRow w.heap.size Y) := ⟨rfl, rfl, rfl, by simp, fun k hk => setRow_other _ _ _ _ (by omega)⟩
    exact ⟨rfl, Lib.below_freeze (b1.trans b2) (p := ⟨w.heap.size, 0, none⟩) (Nat.le_refl _) _⟩

set_option maxHeartbeats 4000000 in
set_option maxRecDepth 100000 in
theorem syntaxError_any (fn s : ByteArray) (hs : s.size ≤ 281474976710656) (w : World) (h : Errs w) :
    Calls Tryd.prog 57 #[.string fn, .string s] w fun e w' => ∃ p, e = .returned (.pointer (some p)) ∧ Below w.heap.size w w' := by
  obtain ⟨⟨t, p, hv⟩, _⟩ := h
  have hG := lt_of_cell hv
  have hvd : w.drew.cell? ⟨2, 0, none⟩ = some (.iface t p) := hv
  go_enter Tryd.func57, Tryd.ntmps57
  go_wp2
  go_region_with (
    go_at_call 63
    refine (clone_any s hs _).mono ?_
    rintro e w2 ⟨rfl, hb⟩
    have hv2 : w2.cell? ⟨2, 0, none⟩ = some (.iface t p) := (hb.cell (show (⟨2, 0, none⟩ : Addr).block < w.drew.heap.size from hG)).trans hvd)
  all_goals (
    go_wp2
    go_ret
    have hs2 : w.heap.size ≤ w2.heap.size := hb.size
    exact ⟨_, rfl, ((Below.drew (Below.refl _ w)).trans hb).alloc hs2 _⟩)

set_option maxHeartbeats 4000000 in
set_option maxRecDepth 100000 in
theorem rangeError_any (fn s : ByteArray) (hs : s.size ≤ 281474976710656) (w : World) (h : Errs w) :
    Calls Tryd.prog 58 #[.string fn, .string s] w fun e w' => ∃ p, e = .returned (.pointer (some p)) ∧ Below w.heap.size w w' := by
  obtain ⟨_, ⟨t, p, hv⟩⟩ := h
  have hG := lt_of_cell hv
  have hvd : w.drew.cell? ⟨3, 0, none⟩ = some (.iface t p) := hv
  go_enter Tryd.func58, Tryd.ntmps58
  go_wp2
  go_region_with (
    go_at_call 63
    refine (clone_any s hs _).mono ?_
    rintro e w2 ⟨rfl, hb⟩
    have hv2 : w2.cell? ⟨3, 0, none⟩ = some (.iface t p) := (hb.cell (show (⟨3, 0, none⟩ : Addr).block < w.drew.heap.size from hG)).trans hvd)
  all_goals (
    go_wp2
    go_ret
    have hs2 : w.heap.size ≤ w2.heap.size := hb.size
    exact ⟨_, rfl, ((Below.drew (Below.refl _ w)).trans hb).alloc hs2 _⟩)

theorem ifaceEq (a b : Int) (W : World) : (binOp .eql 61 (.iface 68 (.int .i64 a)) (.iface 68 (.int .i64 b))).run Tryd.prog W = .ok (.bool (a == b)) W :=
  Lib.run_eql_iface_int W a b Tryd.underlying61 (by kernel_rfl) Tryd.underlying68

set_option maxHeartbeats 4000000 in
set_option maxRecDepth 100000 in
theorem toError_any (fn s : ByteArray) (hs : s.size ≤ 281474976710656) (base bits k : Int) (hk : k = 1 ∨ k = 2) (w : World) (h : Errs w) :
    Calls Tryd.prog 50 #[.string fn, .string s, .int .i64 base, .int .i64 bits, .iface 68 (.int .i64 k)] w fun e w' => ∃ p, e = .returned (.iface 71 (.pointer (some p))) ∧ Below w.heap.size w w' := by
  rcases hk with rfl | rfl
  · have e1 : ∀ W, (binOp .eql 61 (.iface 68 (.int .i64 1)) (.iface 68 (.int .i64 2))).run Tryd.prog W = .ok (.bool false) W := fun W => ifaceEq 1 2 W
    have e2 : ∀ W, (binOp .eql 61 (.iface 68 (.int .i64 1)) (.iface 68 (.int .i64 1))).run Tryd.prog W = .ok (.bool true) W := fun W => ifaceEq 1 1 W
    go_enter Tryd.func50, Tryd.ntmps50
    go_wp2_with (go_at_call 58; refine (rangeError_any fn s hs _ h).mono ?_; rintro e w2 ⟨p, rfl, hb⟩)
    go_ret
    exact ⟨_, rfl, by assumption⟩
  · have e1 : ∀ W, (binOp .eql 61 (.iface 68 (.int .i64 2)) (.iface 68 (.int .i64 2))).run Tryd.prog W = .ok (.bool true) W := fun W => ifaceEq 2 2 W
    go_enter Tryd.func50, Tryd.ntmps50
    go_wp2_with (go_at_call 57; refine (syntaxError_any fn s hs _ h).mono ?_; rintro e w2 ⟨p, rfl, hb⟩)
    go_ret
    exact ⟨_, rfl, by assumption⟩
end Go.Proofs.YtdankjkmgcclhaaDoor
