/- Contract of the document's 'value' where an item takes one value, or two, over its own code. -/
import Derived.Test.YtefcpidegnddiaaVal0
namespace Go.Proofs.Ytefcpidegnddiaa
open Go.ChangeShapes Go.WideShapes Go.ChangeAt Go.RowKit
set_option linter.unusedVariables false
attribute [local go_sem] run_frombits run_bits

set_option maxRecDepth 100000 in
set_option maxHeartbeats 1000000 in
theorem val4 (b off : Nat) (sv iv : Value) (xn xc j : Nat) (bin n v : Int) (f : Nat) (bad : Int) (W : World) (hkn : j + 1 < xn) (hxl : xn ≤ 1000) (h0 : 0 ≤ v) (h1 : v ≤ 18446744073709551615)
    (c0 : W.cell? ⟨b, off + (j + 1) * 3, none⟩ = some (.int .i64 4)) (c1 : W.cell? ⟨b, off + (j + 1) * 3 + 1, none⟩ = some (.int .i64 bin)) (c2 : W.cell? ⟨b, off + (j + 1) * 3 + 2, none⟩ = some (.int .u64 n))
    (C : Hid (Calls Try.prog 16 #[.slice (some ⟨b, off, none⟩) xn xc, .int .i64 (j : Int), sv, iv] (W.alloc (.cells #[.int .i64 4, .int .i64 bin, .int .u64 n] 36)) fun e w' => e = .returned (.tuple #[.int .u64 v, .int .i64 (f : Int), .int .i64 bad]) ∧ Below (W.alloc (.cells #[.int .i64 4, .int .i64 bin, .int .u64 n] 36)).heap.size (W.alloc (.cells #[.int .i64 4, .int .i64 bin, .int .u64 n] 36)) w')) :
    Calls Try.prog 16 #[.slice (some ⟨b, off, none⟩) xn xc, .int .i64 ((j + 1 : Nat) : Int), sv, iv] W fun e w' => e = .returned (.tuple #[.int .u64 (turnV 4 v), .int .i64 (f : Int), .int .i64 bad]) ∧ Below W.heap.size W w' := by
  have hB := hid ((Below.refl W.heap.size W).alloc (Nat.le_refl _) (.cells #[.int .i64 4, .int .i64 bin, .int .u64 n] 36))
  have F : turnV 4 v = IntKind.u64.wrap (wrap64 (0 - wrap64 v)) := by rw [neg_wrap]; simp [turnV]
  rw [F]
  clear F
  go_enter Try.func16, Try.ntmps16
  go_wp2_with fail
  refine Calls.mono C.out ?_
  rintro r w2 ⟨rfl, hb2⟩
  obtain ⟨x0, x1, x2⟩ := box_kept hb2
  have B2 := hid (hB.out.trans (hb2.mono hB.out.size))
  clear hb2 C
  go_wp2
  go_ret3
  exact ⟨retT3 (by first | rfl | simp) rfl rfl, B2.out⟩

set_option maxRecDepth 100000 in
set_option maxHeartbeats 1000000 in
theorem val5 (b off : Nat) (sv iv : Value) (xn xc j : Nat) (bin n v : Int) (f : Nat) (bad : Int) (W : World) (hkn : j + 1 < xn) (hxl : xn ≤ 1000) (h0 : 0 ≤ v) (h1 : v ≤ 18446744073709551615)
    (c0 : W.cell? ⟨b, off + (j + 1) * 3, none⟩ = some (.int .i64 5)) (c1 : W.cell? ⟨b, off + (j + 1) * 3 + 1, none⟩ = some (.int .i64 bin)) (c2 : W.cell? ⟨b, off + (j + 1) * 3 + 2, none⟩ = some (.int .u64 n))
    (C : Hid (Calls Try.prog 16 #[.slice (some ⟨b, off, none⟩) xn xc, .int .i64 (j : Int), sv, iv] (W.alloc (.cells #[.int .i64 5, .int .i64 bin, .int .u64 n] 36)) fun e w' => e = .returned (.tuple #[.int .u64 v, .int .i64 (f : Int), .int .i64 bad]) ∧ Below (W.alloc (.cells #[.int .i64 5, .int .i64 bin, .int .u64 n] 36)).heap.size (W.alloc (.cells #[.int .i64 5, .int .i64 bin, .int .u64 n] 36)) w')) :
    Calls Try.prog 16 #[.slice (some ⟨b, off, none⟩) xn xc, .int .i64 ((j + 1 : Nat) : Int), sv, iv] W fun e w' => e = .returned (.tuple #[.int .u64 (turnV 5 v), .int .i64 (f : Int), .int .i64 bad]) ∧ Below W.heap.size W w' := by
  have hB := hid ((Below.refl W.heap.size W).alloc (Nat.le_refl _) (.cells #[.int .i64 5, .int .i64 bin, .int .u64 n] 36))
  have F : turnV 5 v = if nanB v.toNat then 9221120237041090560 else flipI v := by simp [turnV]
  have T := hid (fun W => odd_any v W h0 h1)
  have T2 := hid (fun W => rtidy_any v W h0 h1)
  have X := hid (xor_sign v h0 h1)
  cases hn : nanB v.toNat
  all_goals
    rw [hn] at F
    simp only [hn] at T T2
    rw [F]
    clear F hn
    go_enter Try.func16, Try.ntmps16
    go_wp2_with fail
    refine Calls.mono C.out ?_
    rintro r w2 ⟨rfl, hb2⟩
    obtain ⟨x0, x1, x2⟩ := box_kept hb2
    have B2 := hid (hB.out.trans (hb2.mono hB.out.size))
    clear hb2 C
    go_wp2_with (first | (go_at_call 22; refine (T.out _).mono ?_; rintro e w' ⟨rfl, rfl⟩) | (go_at_call 23; refine (T2.out _).mono ?_; rintro e w' ⟨rfl, rfl⟩))
    go_ret3
    exact ⟨retT3 (by first | rfl | exact X.out) rfl rfl, B2.out⟩

set_option maxRecDepth 100000 in
set_option maxHeartbeats 1000000 in
theorem val6 (b off : Nat) (sv iv : Value) (xn xc j : Nat) (bin n v : Int) (f : Nat) (bad : Int) (W : World) (hkn : j + 1 < xn) (hxl : xn ≤ 1000) (h0 : 0 ≤ v) (h1 : v ≤ 18446744073709551615)
    (c0 : W.cell? ⟨b, off + (j + 1) * 3, none⟩ = some (.int .i64 6)) (c1 : W.cell? ⟨b, off + (j + 1) * 3 + 1, none⟩ = some (.int .i64 bin)) (c2 : W.cell? ⟨b, off + (j + 1) * 3 + 2, none⟩ = some (.int .u64 n))
    (C : Hid (Calls Try.prog 16 #[.slice (some ⟨b, off, none⟩) xn xc, .int .i64 (j : Int), sv, iv] (W.alloc (.cells #[.int .i64 6, .int .i64 bin, .int .u64 n] 36)) fun e w' => e = .returned (.tuple #[.int .u64 v, .int .i64 (f : Int), .int .i64 bad]) ∧ Below (W.alloc (.cells #[.int .i64 6, .int .i64 bin, .int .u64 n] 36)).heap.size (W.alloc (.cells #[.int .i64 6, .int .i64 bin, .int .u64 n] 36)) w')) :
    Calls Try.prog 16 #[.slice (some ⟨b, off, none⟩) xn xc, .int .i64 ((j + 1 : Nat) : Int), sv, iv] W fun e w' => e = .returned (.tuple #[.int .u64 (turnV 6 v), .int .i64 (f : Int), .int .i64 bad]) ∧ Below W.heap.size W w' := by
  have hB := hid ((Below.refl W.heap.size W).alloc (Nat.le_refl _) (.cells #[.int .i64 6, .int .i64 bin, .int .u64 n] 36))
  have F : turnV 6 v = ((floatOfInt .f64 (wrap64 v) : Nat) : Int) := by simp [turnV]
  rw [F]
  clear F
  go_enter Try.func16, Try.ntmps16
  go_wp2_with fail
  refine Calls.mono C.out ?_
  rintro r w2 ⟨rfl, hb2⟩
  obtain ⟨x0, x1, x2⟩ := box_kept hb2
  have B2 := hid (hB.out.trans (hb2.mono hB.out.size))
  clear hb2 C
  go_wp2
  go_ret3
  exact ⟨retT3 rfl rfl rfl, B2.out⟩

set_option maxRecDepth 100000 in
set_option maxHeartbeats 1000000 in
theorem val7 (b off : Nat) (sv iv : Value) (xn xc j : Nat) (bin n v : Int) (f : Nat) (bad : Int) (W : World) (hkn : j + 1 < xn) (hxl : xn ≤ 1000) (h0 : 0 ≤ v) (h1 : v ≤ 18446744073709551615)
    (c0 : W.cell? ⟨b, off + (j + 1) * 3, none⟩ = some (.int .i64 7)) (c1 : W.cell? ⟨b, off + (j + 1) * 3 + 1, none⟩ = some (.int .i64 bin)) (c2 : W.cell? ⟨b, off + (j + 1) * 3 + 2, none⟩ = some (.int .u64 n))
    (C : Hid (Calls Try.prog 16 #[.slice (some ⟨b, off, none⟩) xn xc, .int .i64 (j : Int), sv, iv] (W.alloc (.cells #[.int .i64 7, .int .i64 bin, .int .u64 n] 36)) fun e w' => e = .returned (.tuple #[.int .u64 v, .int .i64 (f : Int), .int .i64 bad]) ∧ Below (W.alloc (.cells #[.int .i64 7, .int .i64 bin, .int .u64 n] 36)).heap.size (W.alloc (.cells #[.int .i64 7, .int .i64 bin, .int .u64 n] 36)) w')) :
    Calls Try.prog 16 #[.slice (some ⟨b, off, none⟩) xn xc, .int .i64 ((j + 1 : Nat) : Int), sv, iv] W fun e w' => e = .returned (.tuple #[.int .u64 (turnV 7 v), .int .i64 (f : Int), .int .i64 bad]) ∧ Below W.heap.size W w' := by
  have hB := hid ((Below.refl W.heap.size W).alloc (Nat.le_refl _) (.cells #[.int .i64 7, .int .i64 bin, .int .u64 n] 36))
  have F : turnV 7 v = IntKind.u64.wrap (truncZ v.toNat) := by simp [turnV]
  have T := hid (fun W => rtrunc_any v W h0 h1)
  rw [F]
  clear F
  go_enter Try.func16, Try.ntmps16
  go_wp2_with fail
  refine Calls.mono C.out ?_
  rintro r w2 ⟨rfl, hb2⟩
  obtain ⟨x0, x1, x2⟩ := box_kept hb2
  have B2 := hid (hB.out.trans (hb2.mono hB.out.size))
  clear hb2 C
  go_wp2_with (first | (go_at_call 25; refine (T.out _).mono ?_; rintro e w' ⟨rfl, rfl⟩))
  go_ret3
  exact ⟨retT3 rfl rfl rfl, B2.out⟩

set_option maxRecDepth 100000 in
set_option maxHeartbeats 1000000 in
theorem val8 (b off : Nat) (sv iv : Value) (xn xc j : Nat) (bin n v : Int) (m : Nat) (bad : Int) (u : Int) (g : Nat) (worse : Int) (W : World) (hkn : j + 1 < xn) (hmj : m ≤ j) (hxl : xn ≤ 1000) (h0 : 0 ≤ v) (h1 : v ≤ 18446744073709551615) (k0 : 0 ≤ u) (k1 : u ≤ 18446744073709551615)
    (c0 : W.cell? ⟨b, off + (j + 1) * 3, none⟩ = some (.int .i64 8)) (c1 : W.cell? ⟨b, off + (j + 1) * 3 + 1, none⟩ = some (.int .i64 bin)) (c2 : W.cell? ⟨b, off + (j + 1) * 3 + 2, none⟩ = some (.int .u64 n))
    (C : Hid (Calls Try.prog 16 #[.slice (some ⟨b, off, none⟩) xn xc, .int .i64 (j : Int), sv, iv] (W.alloc (.cells #[.int .i64 8, .int .i64 bin, .int .u64 n] 36)) fun e w' => e = .returned (.tuple #[.int .u64 v, .int .i64 ((m + 1 : Nat) : Int), .int .i64 bad]) ∧ Below (W.alloc (.cells #[.int .i64 8, .int .i64 bin, .int .u64 n] 36)).heap.size (W.alloc (.cells #[.int .i64 8, .int .i64 bin, .int .u64 n] 36)) w'))
    (D : Hid (∀ W2, Below (W.alloc (.cells #[.int .i64 8, .int .i64 bin, .int .u64 n] 36)).heap.size (W.alloc (.cells #[.int .i64 8, .int .i64 bin, .int .u64 n] 36)) W2 → Calls Try.prog 16 #[.slice (some ⟨b, off, none⟩) xn xc, .int .i64 (m : Int), sv, iv] W2 fun e w' => e = .returned (.tuple #[.int .u64 u, .int .i64 (g : Int), .int .i64 worse]) ∧ Below W2.heap.size W2 w')) :
    Calls Try.prog 16 #[.slice (some ⟨b, off, none⟩) xn xc, .int .i64 ((j + 1 : Nat) : Int), sv, iv] W fun e w' => e = .returned (.tuple #[.int .u64 (join2 ⟨8, bin, n⟩ ⟨v, m + 1, bad⟩ ⟨u, g, worse⟩).v, .int .i64 ((join2 ⟨8, bin, n⟩ ⟨v, m + 1, bad⟩ ⟨u, g, worse⟩).f : Int), .int .i64 (join2 ⟨8, bin, n⟩ ⟨v, m + 1, bad⟩ ⟨u, g, worse⟩).b]) ∧ Below W.heap.size W w' := by
  have hB := hid ((Below.refl W.heap.size W).alloc (Nat.le_refl _) (.cells #[.int .i64 8, .int .i64 bin, .int .u64 n] 36))
  cases hw : (worse != 0)
  · cases hq : (bad != 0)
    · have ew : worse = 0 := by simpa using hw
      have eb : bad = 0 := by simpa using hq
      subst ew eb
      clear hw hq
      have R := hid (fun W => rint_any bin (wrap64 u) (wrap64 v) W (by unfold wrap64; omega) (by unfold wrap64; omega) (by unfold wrap64; omega) (by unfold wrap64; omega))
      cases hj : intB bin (wrap64 v)
      · have J : join2 ⟨8, bin, n⟩ ⟨v, m + 1, 0⟩ ⟨u, g, 0⟩ = ⟨0, g, 1⟩ := by simp [join2, joinB, hj]
        rw [J]
        simp only [hj] at R
        clear J hj
        go_enter Try.func16, Try.ntmps16
        go_wp2_with fail
        refine Calls.mono C.out ?_
        rintro r w2 ⟨rfl, hb2⟩
        have B2 := hid (hB.out.trans (hb2.mono hB.out.size))
        obtain ⟨x0, x1, x2⟩ := box_kept hb2
        have D2 := hid (D.out w2 hb2)
        replace hb2 := hid hb2
        clear C D
        go_wp2_with fail
        refine Calls.mono D2.out ?_
        rintro r w3 ⟨rfl, hb3⟩
        obtain ⟨x0, x1, x2⟩ := box_kept (hb2.out.trans (hb3.mono hb2.out.size))
        have B3 := hid (B2.out.trans (hb3.mono B2.out.size))
        clear hb3 hb2 D2 B2
        go_wp2_with (first | (go_at_call 27; refine (R.out _).mono ?_; rintro e w' ⟨rfl, rfl⟩))
        go_ret3
        exact ⟨rfl, B3.out⟩
      · have J : join2 ⟨8, bin, n⟩ ⟨v, m + 1, 0⟩ ⟨u, g, 0⟩ = ⟨IntKind.u64.wrap (intI bin (wrap64 u) (wrap64 v)), g, 0⟩ := by simp [join2, joinB, joinN, hj]
        rw [J]
        simp only [hj] at R
        clear J hj
        go_enter Try.func16, Try.ntmps16
        go_wp2_with fail
        refine Calls.mono C.out ?_
        rintro r w2 ⟨rfl, hb2⟩
        have B2 := hid (hB.out.trans (hb2.mono hB.out.size))
        obtain ⟨x0, x1, x2⟩ := box_kept hb2
        have D2 := hid (D.out w2 hb2)
        replace hb2 := hid hb2
        clear C D
        go_wp2_with fail
        refine Calls.mono D2.out ?_
        rintro r w3 ⟨rfl, hb3⟩
        obtain ⟨x0, x1, x2⟩ := box_kept (hb2.out.trans (hb3.mono hb2.out.size))
        have B3 := hid (B2.out.trans (hb3.mono B2.out.size))
        clear hb3 hb2 D2 B2
        go_wp2_with (first | (go_at_call 27; refine (R.out _).mono ?_; rintro e w' ⟨rfl, rfl⟩))
        go_ret3
        exact ⟨rfl, B3.out⟩
    · have ew : worse = 0 := by simpa using hw
      subst ew
      clear hw
      have J : join2 ⟨8, bin, n⟩ ⟨v, m + 1, bad⟩ ⟨u, g, 0⟩ = ⟨0, g, 1⟩ := by simp only [join2, hq]; rfl
      rw [J]
      clear J
      go_enter Try.func16, Try.ntmps16
      go_wp2_with fail
      refine Calls.mono C.out ?_
      rintro r w2 ⟨rfl, hb2⟩
      have B2 := hid (hB.out.trans (hb2.mono hB.out.size))
      obtain ⟨x0, x1, x2⟩ := box_kept hb2
      have D2 := hid (D.out w2 hb2)
      replace hb2 := hid hb2
      clear C D
      go_wp2_with fail
      refine Calls.mono D2.out ?_
      rintro r w3 ⟨rfl, hb3⟩
      obtain ⟨x0, x1, x2⟩ := box_kept (hb2.out.trans (hb3.mono hb2.out.size))
      have B3 := hid (B2.out.trans (hb3.mono B2.out.size))
      clear hb3 hb2 D2 B2
      go_wp2
      go_ret3
      exact ⟨rfl, B3.out⟩
  · have J : join2 ⟨8, bin, n⟩ ⟨v, m + 1, bad⟩ ⟨u, g, worse⟩ = ⟨0, g, 1⟩ := by simp only [join2, hw]; rfl
    rw [J]
    clear J
    go_enter Try.func16, Try.ntmps16
    go_wp2_with fail
    refine Calls.mono C.out ?_
    rintro r w2 ⟨rfl, hb2⟩
    have B2 := hid (hB.out.trans (hb2.mono hB.out.size))
    obtain ⟨x0, x1, x2⟩ := box_kept hb2
    have D2 := hid (D.out w2 hb2)
    replace hb2 := hid hb2
    clear C D
    go_wp2_with fail
    refine Calls.mono D2.out ?_
    rintro r w3 ⟨rfl, hb3⟩
    obtain ⟨x0, x1, x2⟩ := box_kept (hb2.out.trans (hb3.mono hb2.out.size))
    have B3 := hid (B2.out.trans (hb3.mono B2.out.size))
    clear hb3 hb2 D2 B2
    go_wp2
    go_ret3
    exact ⟨rfl, B3.out⟩

set_option maxRecDepth 100000 in
set_option maxHeartbeats 1000000 in
theorem val9 (b off : Nat) (sv iv : Value) (xn xc j : Nat) (bin n v : Int) (m : Nat) (bad : Int) (u : Int) (g : Nat) (worse : Int) (W : World) (hkn : j + 1 < xn) (hmj : m ≤ j) (hxl : xn ≤ 1000) (h0 : 0 ≤ v) (h1 : v ≤ 18446744073709551615) (k0 : 0 ≤ u) (k1 : u ≤ 18446744073709551615)
    (c0 : W.cell? ⟨b, off + (j + 1) * 3, none⟩ = some (.int .i64 9)) (c1 : W.cell? ⟨b, off + (j + 1) * 3 + 1, none⟩ = some (.int .i64 bin)) (c2 : W.cell? ⟨b, off + (j + 1) * 3 + 2, none⟩ = some (.int .u64 n))
    (C : Hid (Calls Try.prog 16 #[.slice (some ⟨b, off, none⟩) xn xc, .int .i64 (j : Int), sv, iv] (W.alloc (.cells #[.int .i64 9, .int .i64 bin, .int .u64 n] 36)) fun e w' => e = .returned (.tuple #[.int .u64 v, .int .i64 ((m + 1 : Nat) : Int), .int .i64 bad]) ∧ Below (W.alloc (.cells #[.int .i64 9, .int .i64 bin, .int .u64 n] 36)).heap.size (W.alloc (.cells #[.int .i64 9, .int .i64 bin, .int .u64 n] 36)) w'))
    (D : Hid (∀ W2, Below (W.alloc (.cells #[.int .i64 9, .int .i64 bin, .int .u64 n] 36)).heap.size (W.alloc (.cells #[.int .i64 9, .int .i64 bin, .int .u64 n] 36)) W2 → Calls Try.prog 16 #[.slice (some ⟨b, off, none⟩) xn xc, .int .i64 (m : Int), sv, iv] W2 fun e w' => e = .returned (.tuple #[.int .u64 u, .int .i64 (g : Int), .int .i64 worse]) ∧ Below W2.heap.size W2 w')) :
    Calls Try.prog 16 #[.slice (some ⟨b, off, none⟩) xn xc, .int .i64 ((j + 1 : Nat) : Int), sv, iv] W fun e w' => e = .returned (.tuple #[.int .u64 (join2 ⟨9, bin, n⟩ ⟨v, m + 1, bad⟩ ⟨u, g, worse⟩).v, .int .i64 ((join2 ⟨9, bin, n⟩ ⟨v, m + 1, bad⟩ ⟨u, g, worse⟩).f : Int), .int .i64 (join2 ⟨9, bin, n⟩ ⟨v, m + 1, bad⟩ ⟨u, g, worse⟩).b]) ∧ Below W.heap.size W w' := by
  have hB := hid ((Below.refl W.heap.size W).alloc (Nat.le_refl _) (.cells #[.int .i64 9, .int .i64 bin, .int .u64 n] 36))
  cases hw : (worse != 0)
  · cases hq : (bad != 0)
    · have ew : worse = 0 := by simpa using hw
      have eb : bad = 0 := by simpa using hq
      subst ew eb
      clear hw hq
      have J : join2 ⟨9, bin, n⟩ ⟨v, m + 1, 0⟩ ⟨u, g, 0⟩ = ⟨realI bin u v, g, 0⟩ := by simp [join2, joinB, joinN]
      rw [J]
      clear J
      have R := hid (fun W => rreal_is bin u v W k0 k1 h0 h1)
      go_enter Try.func16, Try.ntmps16
      go_wp2_with fail
      refine Calls.mono C.out ?_
      rintro r w2 ⟨rfl, hb2⟩
      have B2 := hid (hB.out.trans (hb2.mono hB.out.size))
      obtain ⟨x0, x1, x2⟩ := box_kept hb2
      have D2 := hid (D.out w2 hb2)
      replace hb2 := hid hb2
      clear C D
      go_wp2_with fail
      refine Calls.mono D2.out ?_
      rintro r w3 ⟨rfl, hb3⟩
      obtain ⟨x0, x1, x2⟩ := box_kept (hb2.out.trans (hb3.mono hb2.out.size))
      have B3 := hid (B2.out.trans (hb3.mono B2.out.size))
      clear hb3 hb2 D2 B2
      go_wp2_with (first | (go_at_call 26; refine (R.out _).mono ?_; rintro e w' ⟨rfl, dn, rfl⟩))
      go_ret3
      exact ⟨rfl, below_drewN B3.out _⟩
    · have ew : worse = 0 := by simpa using hw
      subst ew
      clear hw
      have J : join2 ⟨9, bin, n⟩ ⟨v, m + 1, bad⟩ ⟨u, g, 0⟩ = ⟨0, g, 1⟩ := by simp only [join2, hq]; rfl
      rw [J]
      clear J
      go_enter Try.func16, Try.ntmps16
      go_wp2_with fail
      refine Calls.mono C.out ?_
      rintro r w2 ⟨rfl, hb2⟩
      have B2 := hid (hB.out.trans (hb2.mono hB.out.size))
      obtain ⟨x0, x1, x2⟩ := box_kept hb2
      have D2 := hid (D.out w2 hb2)
      replace hb2 := hid hb2
      clear C D
      go_wp2_with fail
      refine Calls.mono D2.out ?_
      rintro r w3 ⟨rfl, hb3⟩
      obtain ⟨x0, x1, x2⟩ := box_kept (hb2.out.trans (hb3.mono hb2.out.size))
      have B3 := hid (B2.out.trans (hb3.mono B2.out.size))
      clear hb3 hb2 D2 B2
      go_wp2
      go_ret3
      exact ⟨rfl, B3.out⟩
  · have J : join2 ⟨9, bin, n⟩ ⟨v, m + 1, bad⟩ ⟨u, g, worse⟩ = ⟨0, g, 1⟩ := by simp only [join2, hw]; rfl
    rw [J]
    clear J
    go_enter Try.func16, Try.ntmps16
    go_wp2_with fail
    refine Calls.mono C.out ?_
    rintro r w2 ⟨rfl, hb2⟩
    have B2 := hid (hB.out.trans (hb2.mono hB.out.size))
    obtain ⟨x0, x1, x2⟩ := box_kept hb2
    have D2 := hid (D.out w2 hb2)
    replace hb2 := hid hb2
    clear C D
    go_wp2_with fail
    refine Calls.mono D2.out ?_
    rintro r w3 ⟨rfl, hb3⟩
    obtain ⟨x0, x1, x2⟩ := box_kept (hb2.out.trans (hb3.mono hb2.out.size))
    have B3 := hid (B2.out.trans (hb3.mono B2.out.size))
    clear hb3 hb2 D2 B2
    go_wp2
    go_ret3
    exact ⟨rfl, B3.out⟩

set_option maxRecDepth 100000 in
set_option maxHeartbeats 1000000 in
theorem val10 (b off : Nat) (sv iv : Value) (xn xc j : Nat) (bin n v : Int) (m : Nat) (bad : Int) (u : Int) (g : Nat) (worse : Int) (W : World) (hkn : j + 1 < xn) (hmj : m ≤ j) (hxl : xn ≤ 1000) (h0 : 0 ≤ v) (h1 : v ≤ 18446744073709551615) (k0 : 0 ≤ u) (k1 : u ≤ 18446744073709551615)
    (c0 : W.cell? ⟨b, off + (j + 1) * 3, none⟩ = some (.int .i64 10)) (c1 : W.cell? ⟨b, off + (j + 1) * 3 + 1, none⟩ = some (.int .i64 bin)) (c2 : W.cell? ⟨b, off + (j + 1) * 3 + 2, none⟩ = some (.int .u64 n))
    (C : Hid (Calls Try.prog 16 #[.slice (some ⟨b, off, none⟩) xn xc, .int .i64 (j : Int), sv, iv] (W.alloc (.cells #[.int .i64 10, .int .i64 bin, .int .u64 n] 36)) fun e w' => e = .returned (.tuple #[.int .u64 v, .int .i64 ((m + 1 : Nat) : Int), .int .i64 bad]) ∧ Below (W.alloc (.cells #[.int .i64 10, .int .i64 bin, .int .u64 n] 36)).heap.size (W.alloc (.cells #[.int .i64 10, .int .i64 bin, .int .u64 n] 36)) w'))
    (D : Hid (∀ W2, Below (W.alloc (.cells #[.int .i64 10, .int .i64 bin, .int .u64 n] 36)).heap.size (W.alloc (.cells #[.int .i64 10, .int .i64 bin, .int .u64 n] 36)) W2 → Calls Try.prog 16 #[.slice (some ⟨b, off, none⟩) xn xc, .int .i64 (m : Int), sv, iv] W2 fun e w' => e = .returned (.tuple #[.int .u64 u, .int .i64 (g : Int), .int .i64 worse]) ∧ Below W2.heap.size W2 w')) :
    Calls Try.prog 16 #[.slice (some ⟨b, off, none⟩) xn xc, .int .i64 ((j + 1 : Nat) : Int), sv, iv] W fun e w' => e = .returned (.tuple #[.int .u64 (join2 ⟨10, bin, n⟩ ⟨v, m + 1, bad⟩ ⟨u, g, worse⟩).v, .int .i64 ((join2 ⟨10, bin, n⟩ ⟨v, m + 1, bad⟩ ⟨u, g, worse⟩).f : Int), .int .i64 (join2 ⟨10, bin, n⟩ ⟨v, m + 1, bad⟩ ⟨u, g, worse⟩).b]) ∧ Below W.heap.size W w' := by
  have hB := hid ((Below.refl W.heap.size W).alloc (Nat.le_refl _) (.cells #[.int .i64 10, .int .i64 bin, .int .u64 n] 36))
  cases hw : (worse != 0)
  · cases hq : (bad != 0)
    · have ew : worse = 0 := by simpa using hw
      have eb : bad = 0 := by simpa using hq
      subst ew eb
      clear hw hq
      have R := hid (fun W => rint_any bin (wrap64 u) (wrap64 v) W (by unfold wrap64; omega) (by unfold wrap64; omega) (by unfold wrap64; omega) (by unfold wrap64; omega))
      cases hj : intB bin (wrap64 v)
      · have J : join2 ⟨10, bin, n⟩ ⟨v, m + 1, 0⟩ ⟨u, g, 0⟩ = ⟨0, g, 1⟩ := by simp [join2, joinB, hj]
        rw [J]
        simp only [hj] at R
        clear J hj
        go_enter Try.func16, Try.ntmps16
        go_wp2_with fail
        refine Calls.mono C.out ?_
        rintro r w2 ⟨rfl, hb2⟩
        have B2 := hid (hB.out.trans (hb2.mono hB.out.size))
        obtain ⟨x0, x1, x2⟩ := box_kept hb2
        have D2 := hid (D.out w2 hb2)
        replace hb2 := hid hb2
        clear C D
        go_wp2_with fail
        refine Calls.mono D2.out ?_
        rintro r w3 ⟨rfl, hb3⟩
        obtain ⟨x0, x1, x2⟩ := box_kept (hb2.out.trans (hb3.mono hb2.out.size))
        have B3 := hid (B2.out.trans (hb3.mono B2.out.size))
        clear hb3 hb2 D2 B2
        go_wp2_with (first | (go_at_call 27; refine (R.out _).mono ?_; rintro e w' ⟨rfl, rfl⟩))
        go_ret3
        exact ⟨rfl, B3.out⟩
      · have J : join2 ⟨10, bin, n⟩ ⟨v, m + 1, 0⟩ ⟨u, g, 0⟩ = ⟨IntKind.u64.wrap (intI bin (wrap64 u) (wrap64 v)), g, 0⟩ := by simp [join2, joinB, joinN, hj]
        rw [J]
        simp only [hj] at R
        clear J hj
        go_enter Try.func16, Try.ntmps16
        go_wp2_with fail
        refine Calls.mono C.out ?_
        rintro r w2 ⟨rfl, hb2⟩
        have B2 := hid (hB.out.trans (hb2.mono hB.out.size))
        obtain ⟨x0, x1, x2⟩ := box_kept hb2
        have D2 := hid (D.out w2 hb2)
        replace hb2 := hid hb2
        clear C D
        go_wp2_with fail
        refine Calls.mono D2.out ?_
        rintro r w3 ⟨rfl, hb3⟩
        obtain ⟨x0, x1, x2⟩ := box_kept (hb2.out.trans (hb3.mono hb2.out.size))
        have B3 := hid (B2.out.trans (hb3.mono B2.out.size))
        clear hb3 hb2 D2 B2
        go_wp2_with (first | (go_at_call 27; refine (R.out _).mono ?_; rintro e w' ⟨rfl, rfl⟩))
        go_ret3
        exact ⟨rfl, B3.out⟩
    · have ew : worse = 0 := by simpa using hw
      subst ew
      clear hw
      have J : join2 ⟨10, bin, n⟩ ⟨v, m + 1, bad⟩ ⟨u, g, 0⟩ = ⟨0, g, 1⟩ := by simp only [join2, hq]; rfl
      rw [J]
      clear J
      go_enter Try.func16, Try.ntmps16
      go_wp2_with fail
      refine Calls.mono C.out ?_
      rintro r w2 ⟨rfl, hb2⟩
      have B2 := hid (hB.out.trans (hb2.mono hB.out.size))
      obtain ⟨x0, x1, x2⟩ := box_kept hb2
      have D2 := hid (D.out w2 hb2)
      replace hb2 := hid hb2
      clear C D
      go_wp2_with fail
      refine Calls.mono D2.out ?_
      rintro r w3 ⟨rfl, hb3⟩
      obtain ⟨x0, x1, x2⟩ := box_kept (hb2.out.trans (hb3.mono hb2.out.size))
      have B3 := hid (B2.out.trans (hb3.mono B2.out.size))
      clear hb3 hb2 D2 B2
      go_wp2
      go_ret3
      exact ⟨rfl, B3.out⟩
  · have J : join2 ⟨10, bin, n⟩ ⟨v, m + 1, bad⟩ ⟨u, g, worse⟩ = ⟨0, g, 1⟩ := by simp only [join2, hw]; rfl
    rw [J]
    clear J
    go_enter Try.func16, Try.ntmps16
    go_wp2_with fail
    refine Calls.mono C.out ?_
    rintro r w2 ⟨rfl, hb2⟩
    have B2 := hid (hB.out.trans (hb2.mono hB.out.size))
    obtain ⟨x0, x1, x2⟩ := box_kept hb2
    have D2 := hid (D.out w2 hb2)
    replace hb2 := hid hb2
    clear C D
    go_wp2_with fail
    refine Calls.mono D2.out ?_
    rintro r w3 ⟨rfl, hb3⟩
    obtain ⟨x0, x1, x2⟩ := box_kept (hb2.out.trans (hb3.mono hb2.out.size))
    have B3 := hid (B2.out.trans (hb3.mono B2.out.size))
    clear hb3 hb2 D2 B2
    go_wp2
    go_ret3
    exact ⟨rfl, B3.out⟩

end Go.Proofs.Ytefcpidegnddiaa
