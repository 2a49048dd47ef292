/- Contract of calc's reckon, over the landed code. -/
import Derived.Test.YtefcpidegnddiaaReck
import Derived.Deep.RegionHeld3
import Derived.Deep.CutBlock
import Derived.Deep.CutRange
import Derived.Deep.DeepCutAuto
namespace Go.Proofs.Ytefcpidegnddiaa
open Go.ChangeShapes Go.WideShapes Go.ChangeAt Go.RowKit
set_option linter.unusedVariables false

theorem hid {p : Prop} (h : p) : Hid p := h

theorem new_block (w : World) (o : Obj) : (w.alloc o).heap[w.heap.size]? = some o := by
  show (w.heap.push o)[w.heap.size]? = some o
  simp
theorem new_cell (w : World) (cs : Array Value) (t : TypeId) (i : Nat) (v : Value) (h : cs[i]? = some v) : (w.alloc (.cells cs t)).cell? ⟨w.heap.size, i, none⟩ = some v := by
  simp only [World.cell?, new_block]
  exact h

theorem keep5 {w w' : World} {x : Itm} {b off : Nat} {v u : Int} (hB : Below w.heap.size w (w.alloc (.cells #[.int .i64 x.op, .int .i64 x.bin, .int .u64 x.n] 36))) (hb : b < w.heap.size)
    (h : Below (w.alloc (.cells #[.int .i64 x.op, .int .i64 x.bin, .int .u64 x.n] 36)).drew.heap.size (w.alloc (.cells #[.int .i64 x.op, .int .i64 x.bin, .int .u64 x.n] 36)).drew w')
    (c0 : (w.alloc (.cells #[.int .i64 x.op, .int .i64 x.bin, .int .u64 x.n] 36)).cell? ⟨b, off, none⟩ = some (.int .u64 v)) (c1 : (w.alloc (.cells #[.int .i64 x.op, .int .i64 x.bin, .int .u64 x.n] 36)).cell? ⟨b, off + 1, none⟩ = some (.int .u64 u)) :
    w'.cell? ⟨w.heap.size, 0, none⟩ = some (.int .i64 x.op) ∧ w'.cell? ⟨w.heap.size, 1, none⟩ = some (.int .i64 x.bin) ∧ w'.cell? ⟨w.heap.size, 2, none⟩ = some (.int .u64 x.n) ∧ w'.cell? ⟨b, off, none⟩ = some (.int .u64 v) ∧ w'.cell? ⟨b, off + 1, none⟩ = some (.int .u64 u) := by
  have hz : w.heap.size < (w.alloc (.cells #[.int .i64 x.op, .int .i64 x.bin, .int .u64 x.n] 36)).drew.heap.size := by simp
  refine ⟨?_, ?_, ?_, ?_, ?_⟩
  · rw [h.cell (p := ⟨w.heap.size, 0, none⟩) hz]; exact new_cell _ _ _ _ _ rfl
  · rw [h.cell (p := ⟨w.heap.size, 1, none⟩) hz]; exact new_cell _ _ _ _ _ rfl
  · rw [h.cell (p := ⟨w.heap.size, 2, none⟩) hz]; exact new_cell _ _ _ _ _ rfl
  · rw [h.cell (p := ⟨b, off, none⟩) (Nat.lt_trans hb hz)]; exact c0
  · rw [h.cell (p := ⟨b, off + 1, none⟩) (Nat.lt_trans hb hz)]; exact c1

theorem below_drew {B : Nat} {a w : World} (h : Below B a w) : Below B a w.drew := h.drew

set_option maxHeartbeats 1000000 in
theorem reckon0 (x : Itm) (sa ia ta : Option Addr) (sn sc im ic tc : Nat) (sl ins : List Int) (w : World) (hs : sn = sl.length) (hi : im = ins.length) (hx : x.ok) (hin : SlotIn sn x) (hS : NumsAt .u64 w sa sl) (hI : NumsAt .i64 w ia ins) (hsl : sn ≤ 1000000) (hil : im ≤ 1000000) :
    Calls Try.prog 15 #[.agg #[.int .i64 x.op, .int .i64 x.bin, .int .u64 x.n], .slice sa sn sc, .slice ia im ic, .slice ta 0 tc] w fun e w' => e = .returned (.tuple #[.int .u64 (fetchV sl ins x), .bool true]) ∧ Below w.heap.size w w' := by
  have hB := (Below.refl w.heap.size w).alloc (Nat.le_refl _) (.cells #[.int .i64 x.op, .int .i64 x.bin, .int .u64 x.n] 36)
  have C := hid (fetch_any x sa ia sn sc im ic sl ins (w.alloc (.cells #[.int .i64 x.op, .int .i64 x.bin, .int .u64 x.n] 36)) hs hi hx hin (hS.kept hB) (hI.kept hB) hsl hil)
  clear hs hi hx hin hS hI
  go_enter Try.func15, Try.ntmps15
  go_wp2_with (go_at_call 19; refine C.out.mono ?_; rintro e w' ⟨rfl, hb⟩)
  go_ret2
  exact ⟨rfl, hB.trans (hb.mono hB.size)⟩

set_option maxHeartbeats 1000000 in
theorem reckon1 (x : Itm) (sv iv : Value) (b off tc : Nat) (v : Int) (w : World) (hb : b < w.heap.size) (c0 : w.cell? ⟨b, off, none⟩ = some (.int .u64 v)) (h0 : 0 ≤ v) (h1 : v ≤ 18446744073709551615) :
    Calls Try.prog 15 #[.agg #[.int .i64 x.op, .int .i64 x.bin, .int .u64 x.n], sv, iv, .slice (some ⟨b, off, none⟩) 1 tc] w fun e w' => e = .returned (.tuple #[.int .u64 (turnV x.op v), .bool true]) ∧ Below w.heap.size w w' := by
  have hB := (Below.refl w.heap.size w).alloc (Nat.le_refl _) (.cells #[.int .i64 x.op, .int .i64 x.bin, .int .u64 x.n] 36)
  rw [← hB.cell (p := ⟨b, off, none⟩) hb] at c0
  have C := hid (turn_any x.op v (w.alloc (.cells #[.int .i64 x.op, .int .i64 x.bin, .int .u64 x.n] 36)).drew h0 h1)
  have HB := hid hB
  clear h0 h1 hB
  go_enter Try.func15, Try.ntmps15
  go_wp2_with fail
  go_region_held3 (fun w' => w'.cell? ⟨w.heap.size, 0, none⟩ = some (.int .i64 x.op) ∧ w'.cell? ⟨b, off, none⟩ = some (.int .u64 v))
    (go_keep)
    ((go_at_call 20; refine Calls.mono C.out ?_; rintro e w' ⟨rfl, rfl⟩))
  go_wp2
  go_ret2
  exact ⟨rfl, HB.out.drew⟩

set_option maxHeartbeats 1000000 in
theorem reckon2 (x : Itm) (sv iv : Value) (b off tc : Nat) (v u : Int) (w : World) (hb : b < w.heap.size) (c0 : w.cell? ⟨b, off, none⟩ = some (.int .u64 v)) (c1 : w.cell? ⟨b, off + 1, none⟩ = some (.int .u64 u)) (h0 : 0 ≤ v) (h1 : v ≤ 18446744073709551615) (k0 : 0 ≤ u) (k1 : u ≤ 18446744073709551615) :
    Calls Try.prog 15 #[.agg #[.int .i64 x.op, .int .i64 x.bin, .int .u64 x.n], sv, iv, .slice (some ⟨b, off, none⟩) 2 tc] w fun e w' => e = .returned (.tuple #[.int .u64 (joinN x v u), .bool (joinB x u)]) ∧ Below w.heap.size w w' := by
  have hB := (Below.refl w.heap.size w).alloc (Nat.le_refl _) (.cells #[.int .i64 x.op, .int .i64 x.bin, .int .u64 x.n] 36)
  rw [← hB.cell (p := ⟨b, off, none⟩) hb] at c0
  rw [← hB.cell (p := ⟨b, off + 1, none⟩) hb] at c1
  have C := hid (join_any x v u (w.alloc (.cells #[.int .i64 x.op, .int .i64 x.bin, .int .u64 x.n] 36)).drew h0 h1 k0 k1)
  have HB := hid hB
  clear h0 h1 k0 k1 hB
  go_enter Try.func15, Try.ntmps15
  go_wp2_with fail
  go_region_held3 (fun w' => w'.cell? ⟨w.heap.size, 0, none⟩ = some (.int .i64 x.op) ∧ w'.cell? ⟨w.heap.size, 1, none⟩ = some (.int .i64 x.bin) ∧ w'.cell? ⟨w.heap.size, 2, none⟩ = some (.int .u64 x.n) ∧ w'.cell? ⟨b, off, none⟩ = some (.int .u64 v) ∧ w'.cell? ⟨b, off + 1, none⟩ = some (.int .u64 u))
    (first | go_keep | exact hbz.out)
    ((go_at_call 21; refine Calls.mono C.out ?_; rintro e w' ⟨rfl, hb'⟩; have hbz := hid (keep5 HB.out hb hb' c0 c1)))
  go_wp2
  go_ret2
  exact ⟨rfl, HB.out.drew.trans (hb'.mono HB.out.size)⟩
end Go.Proofs.Ytefcpidegnddiaa
