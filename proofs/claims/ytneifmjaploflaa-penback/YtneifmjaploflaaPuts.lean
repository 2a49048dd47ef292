/- The contract of the laws' own 'put': an item, by a pen, and its bytes, by the document. -/
import Derived.Test.YtneifmjaploflaaRefs
namespace Go.Proofs.Ytneifmjaploflaa
open Go.ChangeShapes Go.WideShapes Go.ChangeAt Go.RowKit
open PenMath
set_option linter.unusedVariables false

/-- An item's bytes. -/
def itB (k : Int) (n : Nat) (s : List UInt8) : List UInt8 := if k = 0 then natB n else if k = 1 then natB (zz (wrap64 n)) else natB s.length ++ s

theorem itB_len (k : Int) (n : Nat) (s : List UInt8) (hn : n < 18446744073709551616) (hs : s.length ≤ 1000) : (itB k n s).length ≤ 1010 := by
  unfold itB
  split
  · have := natB_ten n hn; omega
  · split
    · have := natB_ten (zz (wrap64 n)) (zz_lt _ (by unfold wrap64; omega) (by unfold wrap64; omega)); omega
    · have := natB_ten s.length (by omega); rw [List.length_append]; omega

theorem box_kept {base b : Nat} {v : Value} {l : List UInt8} {w w1 : World} {o : Obj} (h : PenAt base w b v l) (t : Touch (Own b v) (w.alloc o) w1) : w1.heap[w.heap.size]? = some o := by
  rw [t.block w.heap.size (by simp) ?_]
  · exact heap_alloc_new _ _
  · rintro (hk | hk)
    · have := h.size; omega
    · have := (h.from _ hk).2; omega

theorem lies_alloc {w : World} {o : Obj} {v v1 : Value} (h : Lies (w.alloc o) v v1) : Lies w v v1 := by
  intro k hk
  rcases h k hk with h1 | h1
  · exact .inl h1
  · right; simp at h1; omega

set_option maxRecDepth 100000 in
set_option maxHeartbeats 400000 in
theorem put_any (base b : Nat) (v : Value) (l : List UInt8) (k : Int) (n : Nat) (s : List UInt8) (w : World) (h : PenAt base w b v l) (hn : n < 18446744073709551616) (hs : s.length ≤ 1000) (hl : l.length ≤ 100000000) :
    Calls Try.prog 10 #[.pointer (some ⟨b, 0, none⟩), .agg #[.int .i64 k, .int .u64 n, .string (bstr s)]] w fun r w' => r = .returned (.string (bstr (itB k n s))) ∧ ∃ v', PenAt base w' b v' (l ++ itB k n s) ∧ Touch (Own b v) w w' ∧ Lies w v v' := by
  have hwr : -9223372036854775808 ≤ wrap64 n ∧ wrap64 n ≤ 9223372036854775807 := by unfold wrap64; omega
  have ha : PenAt base (w.alloc (.cells #[.int .i64 k, .int .u64 n, .string (bstr s)] 30)) b v l := h.kept (F := fun _ => False) ((Touch.refl _ _).alloc _) (fun _ _ h => h)
  have ta : Touch (Own b v) w (w.alloc (.cells #[.int .i64 k, .int .u64 n, .string (bstr s)] 30)) := (Touch.refl _ _).alloc _
  by_cases h0 : k = 0
  · have E : Hid (itB k n s = natB n) := by rw [Hid, itB, if_pos h0]
    have t0 : (k == 0) = true := by simp [h0]
    clear h0
    go_enter Try.func10, Try.ntmps10
    go_wp2_with fail
    refine (penNat_any _ _ _ _ _ _ ha hn (by omega)).mono ?_
    rintro r w1 ⟨rfl, v1, p1, t1, l1⟩
    have hbx := box_kept h t1
    have c1 : w1.cell? ⟨w.heap.size, 1, none⟩ = some (.int .u64 n) := by simp [World.cell?, hbx]
    have c2 : w1.cell? ⟨w.heap.size, 2, none⟩ = some (.string (bstr s)) := by simp [World.cell?, hbx]
    have P1 : Hid (PenAt base w1 b v1 (l ++ itB k n s)) := by rw [E.out]; exact p1
    have T1 : Hid (Touch (Own b v) w w1) := ta.trans t1
    have L1 : Hid (Lies w v v1) := lies_alloc l1
    clear p1 t1 l1 hbx ha ta h
    go_wp2_with fail
    refine (refNat_any _ hn _).mono ?_
    rintro r w2 ⟨rfl, hb⟩
    have P2 : Hid (PenAt base w2 b v1 (l ++ itB k n s)) := P1.out.kept (F := fun _ => False) (Touch.of_below hb) (fun _ _ h => h)
    have T2 : Hid (Touch (Own b v) w w2) := T1.out.trans (Touch.of_below hb)
    clear hb P1 T1
    go_wp2
    go_ret
    exact ⟨ret_str (by rw [E.out]), v1, P2.out, T2.out, L1.out⟩
  by_cases h1 : k = 1
  · have E : Hid (itB k n s = natB (zz (wrap64 n))) := by rw [Hid, itB, if_neg h0, if_pos h1]
    have t0 : (k == 0) = false := by simp [h0]
    have t1 : (k == 1) = true := by simp [h1]
    clear h0 h1
    go_enter Try.func10, Try.ntmps10
    go_wp2_with fail
    refine (penInt_any _ _ _ _ _ _ ha hwr.1 hwr.2 (by omega)).mono ?_
    rintro r w1 ⟨rfl, v1, p1, t1, l1⟩
    have hbx := box_kept h t1
    have c1 : w1.cell? ⟨w.heap.size, 1, none⟩ = some (.int .u64 n) := by simp [World.cell?, hbx]
    have c2 : w1.cell? ⟨w.heap.size, 2, none⟩ = some (.string (bstr s)) := by simp [World.cell?, hbx]
    have P1 : Hid (PenAt base w1 b v1 (l ++ itB k n s)) := by rw [E.out]; exact p1
    have T1 : Hid (Touch (Own b v) w w1) := ta.trans t1
    have L1 : Hid (Lies w v v1) := lies_alloc l1
    clear p1 t1 l1 hbx ha ta h
    go_wp2_with fail
    refine (refInt_any _ hwr.1 hwr.2 _).mono ?_
    rintro r w2 ⟨rfl, hb⟩
    have P2 : Hid (PenAt base w2 b v1 (l ++ itB k n s)) := P1.out.kept (F := fun _ => False) (Touch.of_below hb) (fun _ _ h => h)
    have T2 : Hid (Touch (Own b v) w w2) := T1.out.trans (Touch.of_below hb)
    clear hb P1 T1
    go_wp2
    go_ret
    exact ⟨ret_str (by rw [E.out]), v1, P2.out, T2.out, L1.out⟩
  · have E : Hid (itB k n s = natB s.length ++ s) := by rw [Hid, itB, if_neg h0, if_neg h1]
    have t0 : (k == 0) = false := by simp [h0]
    have t1 : (k == 1) = false := by simp [h1]
    clear h0 h1
    go_enter Try.func10, Try.ntmps10
    go_wp2_with fail
    refine (penText_any _ _ _ _ _ _ ha (by omega) (by omega)).mono ?_
    rintro r w1 ⟨rfl, v1, p1, t1, l1⟩
    have hbx := box_kept h t1
    have c1 : w1.cell? ⟨w.heap.size, 1, none⟩ = some (.int .u64 n) := by simp [World.cell?, hbx]
    have c2 : w1.cell? ⟨w.heap.size, 2, none⟩ = some (.string (bstr s)) := by simp [World.cell?, hbx]
    have P1 : Hid (PenAt base w1 b v1 (l ++ itB k n s)) := by rw [E.out]; exact p1
    have T1 : Hid (Touch (Own b v) w w1) := ta.trans t1
    have L1 : Hid (Lies w v v1) := lies_alloc l1
    clear p1 t1 l1 hbx ha ta h
    go_wp2_with fail
    refine (refText_any _ (by omega) _).mono ?_
    rintro r w2 ⟨rfl, hb⟩
    have P2 : Hid (PenAt base w2 b v1 (l ++ itB k n s)) := P1.out.kept (F := fun _ => False) (Touch.of_below hb) (fun _ _ h => h)
    have T2 : Hid (Touch (Own b v) w w2) := T1.out.trans (Touch.of_below hb)
    clear hb P1 T1
    go_wp2
    go_ret
    exact ⟨ret_str (by rw [E.out]), v1, P2.out, T2.out, L1.out⟩

set_option maxRecDepth 100000 in
set_option maxHeartbeats 400000 in
theorem put_nil (k : Int) (n : Nat) (s : List UInt8) (w : World) (hn : n < 18446744073709551616) (hs : s.length ≤ 1000) :
    Calls Try.prog 10 #[.pointer none, .agg #[.int .i64 k, .int .u64 n, .string (bstr s)]] w fun r w' => r = .returned (.string (bstr (itB k n s))) ∧ Below w.heap.size w w' := by
  have hwr : -9223372036854775808 ≤ wrap64 n ∧ wrap64 n ≤ 9223372036854775807 := by unfold wrap64; omega
  by_cases h0 : k = 0
  · have E : Hid (itB k n s = natB n) := by rw [Hid, itB, if_pos h0]
    have t0 : (k == 0) = true := by simp [h0]
    clear h0
    go_enter Try.func10, Try.ntmps10
    go_wp2_with fail
    refine (penNat_nil _ _).mono ?_
    rintro r w1 ⟨rfl, rfl⟩
    go_wp2_with fail
    refine (refNat_any _ hn _).mono ?_
    rintro r w2 ⟨rfl, hb⟩
    have B : Hid (Below w.heap.size w w2) := ((Below.refl _ _).alloc (Nat.le_refl _) _).trans (hb.mono (by simp))
    clear hb
    go_wp2
    go_ret
    exact ⟨ret_str (by rw [E.out]), B.out⟩
  by_cases h1 : k = 1
  · have E : Hid (itB k n s = natB (zz (wrap64 n))) := by rw [Hid, itB, if_neg h0, if_pos h1]
    have t0 : (k == 0) = false := by simp [h0]
    have t1 : (k == 1) = true := by simp [h1]
    clear h0 h1
    go_enter Try.func10, Try.ntmps10
    go_wp2_with fail
    refine (penInt_nil _ _).mono ?_
    rintro r w1 ⟨rfl, rfl⟩
    go_wp2_with fail
    refine (refInt_any _ hwr.1 hwr.2 _).mono ?_
    rintro r w2 ⟨rfl, hb⟩
    have B : Hid (Below w.heap.size w w2) := ((Below.refl _ _).alloc (Nat.le_refl _) _).trans (hb.mono (by simp))
    clear hb
    go_wp2
    go_ret
    exact ⟨ret_str (by rw [E.out]), B.out⟩
  · have E : Hid (itB k n s = natB s.length ++ s) := by rw [Hid, itB, if_neg h0, if_neg h1]
    have t0 : (k == 0) = false := by simp [h0]
    have t1 : (k == 1) = false := by simp [h1]
    clear h0 h1
    go_enter Try.func10, Try.ntmps10
    go_wp2_with fail
    refine (penText_nil _ _).mono ?_
    rintro r w1 ⟨rfl, rfl⟩
    go_wp2_with fail
    refine (refText_any _ (by omega) _).mono ?_
    rintro r w2 ⟨rfl, hb⟩
    have B : Hid (Below w.heap.size w w2) := ((Below.refl _ _).alloc (Nat.le_refl _) _).trans (hb.mono (by simp))
    clear hb
    go_wp2
    go_ret
    exact ⟨ret_str (by rw [E.out]), B.out⟩

end Go.Proofs.Ytneifmjaploflaa
