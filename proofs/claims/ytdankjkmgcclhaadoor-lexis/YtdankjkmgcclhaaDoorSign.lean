/- The contract of lex's signOf. -/
import Derived.Test.YtdankjkmgcclhaaDoorStrs
import Derived.Laws.Rows
namespace Go.Proofs.YtdankjkmgcclhaaDoor
open Go.ChangeShapes Go.WideShapes Go.ChangeAt Go.RowKit
set_option linter.unusedVariables false

/-- The signs, in the order in which they are tried. -/
def signsL : List (List UInt8) := [[61, 61], [33, 61], [60, 61], [123], [125], [40], [41], [91], [93], [59], [58], [44], [46], [61], [60], [43], [45], [42], [47], [37]]
/-- The first one with which letters begin. -/
def signAt (l : List UInt8) : Option (List UInt8) := signsL.find? (fun x => preB x l)

/-- The table of signs lies in its variable. -/
def Signs (w : World) : Prop := ∃ t fr, w.heap[0]? = some (.cells (signsL.map (fun x => Value.string (bstr x))).toArray t fr)

theorem Signs.kept {w w' : World} (h : Signs w) (b : Below w.heap.size w w') : Signs w' := by
  obtain ⟨t, fr, h⟩ := h
  exact ⟨t, fr, (b.block 0 (Array.getElem?_eq_some_iff.1 h).1).trans h⟩

/-- A token's cells. -/
def tokC (k : Nat) (t : List UInt8) (n line col : Nat) : List Value := [.int .i64 k, .string (bstr t), .int .u64 n, .int .i64 line, .int .i64 col]
/-- A token, as a value. -/
def tokV (k : Nat) (t : List UInt8) (n line col : Nat) : Value := .agg (tokC k t n line col).toArray

/-- What signOf answers. -/
def signV (l : List UInt8) : Value := match signAt l with | some x => .tuple #[tokV 5 x 0 0 0, .bool true] | none => .tuple #[tokV 0 [] 0 0 0, .bool false]

theorem heap_signs (w : World) (h : Signs w) : ∃ t fr, ∀ o, (w.alloc o).heap[0]? = some (.cells (signsL.map (fun x => Value.string (bstr x))).toArray t fr) := by
  obtain ⟨t, fr, h⟩ := h
  exact ⟨t, fr, fun o => (Below.heap_alloc _ _ _ (Array.getElem?_eq_some_iff.1 h).1).trans h⟩

theorem results_row_tmp {P : Program} {fn : Func} {p u : Tmp} {ty : TypeId} (h : fn.results = #[.cell p ty, .tmp u]) (tmps : Array Value) (w : World) (g : Nat) (t : TypeId) (cs : Array Value) (fr : Nat × Nat) (d : TypeDesc)
    (hp : tmps.getD p undef = .pointer (some ⟨g, 0, none⟩)) (hg : w.heap[g]? = some (.cells cs t fr))
    (hu : P.underlying ty = some d) (hd : (match d with | .struct _ | .array _ _ => true | _ => false) = true) (hi : (P.info? ty).map (·.size) = some cs.size) :
    (results fn tmps).run P w = .ok (.tuple #[.agg cs, tmps.getD u undef]) w := by
  rw [results_cell_tmp h, hp]
  simp [asAddr, run_loadVar_row (P := P) w g t ty cs fr d hg hu hd hi, Result.andThen]

theorem info9 : (Tryd.prog.info? 9).map (fun i => (i.zero, i.size, i.bytes)) = some (some (.string ⟨#[]⟩), 1, 16) := by kernel_rfl

theorem index_sign (S : Array Value) (k : Nat) (hk : k < 20) (x : ByteArray) (h : S[k]? = some (.string x)) (W : World) : (Instr.index 64 (.agg S) (.int .i64 k)).run Tryd.prog W = .ok (.string x) W := by
  obtain ⟨i, hi, z0, z1, z2⟩ := info_parts info9
  simp [Instr.index, run_underlying Tryd.underlying64, asIntOf, hk, sizeOf, typeInfo, hi, z1, part, h, go_sem]

set_option maxRecDepth 100000 in
set_option maxHeartbeats 2000000 in
theorem signOf_any (l : List UInt8) (w : World) (h : Signs w) : Calls Tryd.prog 32 #[.string (bstr l)] w fun e w' => e = .returned (signV l) ∧ Below w.heap.size w w' := by
  obtain ⟨t0, fr0, hld⟩ := heap_signs w h
  obtain ⟨S, hS⟩ : ∃ S : Array Value, S = (signsL.map (fun x => Value.string (bstr x))).toArray := ⟨_, rfl⟩
  rw [← hS] at hld
  have hSz : S.size = 20 := by rw [hS]; rfl
  have hget : ∀ k, k < 20 → S[k]? = some (.string (bstr (signsL.getD k []))) := fun k hk => by
    rw [hS]
    have : k < signsL.length := hk
    simp [this]
  clear hS
  go_enter Tryd.func32, Tryd.ntmps32
  go_wp2_with (refine wpList_load_row (P := Tryd.prog) rfl 64 (.global 0) rfl 0 rfl t0 S fr0 _ (hld _) Tryd.underlying64 rfl (by rw [hSz]; kernel_rfl) ?_)
  go_loop [7] (fun i => ∃ k : Nat, i = .int .i64 k ∧ k ≤ 20 ∧ Hid (∀ j, j < k → preB (signsL.getD j []) l = false)) (fun i => 20 - (intOf i).toNat)
  case atStart => exact ⟨0, rfl, by omega, hid (fun j hj => by omega)⟩
  case round =>
    obtain ⟨k, rfl, hk, hin⟩ := hrel
    by_cases hlt : k < 20
    · have g1 := hget k hlt
      have C := fun W => hasPrefix_any l (signsL.getD k []) W
      cases hq : preB (signsL.getD k []) l
      · rw [hq] at C
        have F : Hid (∀ j, j < k + 1 → preB (signsL.getD j []) l = false) := hid (fun j hj => by
          by_cases hjk : j < k
          · exact hin.out j hjk
          · obtain rfl : j = k := by omega
            exact hq)
        clear hget
        generalize signsL.getD k [] = x at g1 C
        have ix := index_sign S k hlt (bstr x) g1
        go_wp2_with (go_at_call 27; refine (C _).mono ?_; rintro e w' ⟨rfl, rfl⟩)
        go_round
        case rel => exact ⟨k + 1, by go_num, by omega, F⟩
        case measure => simp [intOf]; omega
      · have F : Hid (signV l = .tuple #[tokV 5 (signsL.getD k []) 0 0 0, .bool true]) := hid (by
          have : signAt l = some (signsL.getD k []) := by
            have hk2 : k < signsL.length := hlt
            have hg : signsL.getD k [] = signsL[k] := by rw [List.getD_eq_getElem?_getD, List.getElem?_eq_getElem hk2]; rfl
            rw [signAt, List.find?_eq_some_iff_getElem]
            refine ⟨hq, k, hk2, hg.symm, fun j hj => ?_⟩
            have := hin.out j hj
            have hg2 : signsL.getD j [] = signsL[j]'(by omega) := by rw [List.getD_eq_getElem?_getD, List.getElem?_eq_getElem (by omega)]; rfl
            rw [hg2] at this
            simp [this]
          rw [signV, this])
        rw [hq] at C
        clear hget
        generalize signsL.getD k [] = x at g1 C F
        have ix := index_sign S k hlt (bstr x) g1
        go_wp2_with (go_at_call 27; refine (C _).mono ?_; rintro e w' ⟨rfl, rfl⟩)
        try simp only [Exit.inBlock, Exit.then]
        refine bodyPost_ret (results_row_tmp (P := Tryd.prog) rfl _ _ w.heap.size _ _ _ _ rfl (heap_alloc_new _ _) Tryd.underlying35 rfl (by kernel_rfl)) rfl ?_
        exact ⟨by rw [F.out]; rfl, (Below.refl _ _).alloc (Nat.le_refl _) _⟩
    · have F : Hid (signV l = .tuple #[tokV 0 [] 0 0 0, .bool false]) := hid (by
        have : signAt l = none := by
          rw [signAt, List.find?_eq_none]
          intro x hx
          obtain ⟨j, hj, rfl⟩ := List.getElem_of_mem hx
          have hj20 : j < 20 := hj
          have := hin.out j (by omega)
          have hg2 : signsL.getD j [] = signsL[j] := by rw [List.getD_eq_getElem?_getD, List.getElem?_eq_getElem hj]; rfl
          rw [hg2] at this
          intro h
          exact Bool.noConfusion (this.symm.trans h)
        rw [signV, this])
      go_wp2
      try simp only [Exit.inBlock, Exit.then]
      refine bodyPost_ret (results_row_tmp (P := Tryd.prog) rfl _ _ w.heap.size _ _ _ _ rfl (heap_alloc_new _ _) Tryd.underlying35 rfl (by kernel_rfl)) rfl ?_
      exact ⟨by rw [F.out]; rfl, (Below.refl _ _).alloc (Nat.le_refl _) _⟩
end Go.Proofs.YtdankjkmgcclhaaDoor
