/- The contracts of the document's own answers for what is put. -/
import Derived.Test.YtneifmjaploflaaPens
import Derived.Deep.RegionWith
namespace Go.Proofs.Ytneifmjaploflaa
open Go.ChangeShapes Go.WideShapes Go.ChangeAt Go.RowKit
open PenMath
set_option linter.unusedVariables false

theorem conv_one (b : Nat) (x : Int) (W : World) (h : W.cell? ⟨b, 0, none⟩ = some (.int .u8 x)) : (convert 24 9 (.slice (some ⟨b, 0, none⟩) 1 1)).run Try.prog W = .ok (.string (bstr [UInt8.ofNat x.toNat])) W := by
  have := run_convert_bytes_arg W 24 5 Try.underlying24 Try.underlying5 b 0 1 1 [x] rfl (fun i hi => by
    obtain rfl : i = 0 := by omega
    exact h) 9 Try.underlying9
  rw [this]
  rfl

theorem bcell {W w1 : World} (hb : Below W.heap.size W w1) : (∀ b o, b < W.heap.size → w1.cell? ⟨b, o, none⟩ = W.cell? ⟨b, o, none⟩) ∧ (∀ b o, b < W.heap.size → w1.frozen? ⟨b, o, none⟩ = W.frozen? ⟨b, o, none⟩) :=
  ⟨fun b o h => hb.cell (p := ⟨b, o, none⟩) h, fun b o h => hb.frozen (p := ⟨b, o, none⟩) h⟩

set_option maxRecDepth 100000 in
set_option maxHeartbeats 1000000 in
theorem refNat_any (n : Nat) (hn : n < 18446744073709551616) (w : World) :
    Calls Try.prog 23 #[.int .u64 n] w fun r w' => r = .returned (.string (bstr (natB n))) ∧ Below w.heap.size w w' := by
  induction n using Nat.strongRecOn generalizing w with
  | ind n ih =>
    by_cases h : n < 128
    · have hcv := fun (W : World) (b : Nat) => conv_one b (n : Int) W
      have E : Hid (bstr (natB n) = bstr [UInt8.ofNat n]) := by rw [Hid, natB_lt n h]
      clear ih
      go_enter Try.func23, Try.ntmps23
      go_wp2
      go_ret
      exact ⟨ret_str E.out.symm, (Below.refl _ _).alloc (Nat.le_refl _) _⟩
    · have IH := ih (n / 128) (by omega) (by omega)
      have e : ((n / 128 : Nat) : Int) = IntKind.u64.wrap ((n : Int) / 128) := by rw [wrap_u64 _ (by omega) (by omega)]; omega
      have ex : IntKind.u8.wrap (IntKind.u64.wrap ((n : Int).tmod 128 + 128)) = (n : Int) % 128 + 128 := by
        rw [Int.tmod_eq_emod_of_nonneg (by omega), wrap_u64 _ (by omega) (by omega)]
        simp [IntKind.wrap, IntKind.bits, IntKind.signed]
        omega
      rw [e] at IH
      have IH' : Hid _ := IH
      have hcv := fun (W : World) (b : Nat) => conv_one b (IntKind.u8.wrap (IntKind.u64.wrap ((n : Int).tmod 128 + 128))) W
      rw [ex] at hcv
      have z1 : ((bstr (natB (n / 128))).size : Int) ≤ 10 := by rw [bstr_size]; have := natB_ten (n / 128) (by omega); omega
      have z2 : ((bstr [UInt8.ofNat ((n : Int) % 128 + 128).toNat]).size : Int) ≤ 10 := by rw [bstr_size]; simp
      have E : Hid (bstr [UInt8.ofNat ((n : Int) % 128 + 128).toNat] ++ bstr (natB (n / 128)) = bstr (natB n)) := by
        rw [Hid, natB_ge n h, show ((n : Int) % 128 + 128).toNat = n % 128 + 128 by omega]
        apply WideShapes.bytes_inj
        simp [bstr]
      generalize bstr [UInt8.ofNat ((n : Int) % 128 + 128).toNat] = s1 at *
      generalize bstr (natB (n / 128)) = s2 at *
      rw [← ex] at hcv
      clear ih IH e ex
      go_enter Try.func23, Try.ntmps23
      go_wp2_with fail
      go_region_with (go_at_call 23; refine (IH'.out _).mono ?_; rintro r w' ⟨rfl, hb⟩; obtain ⟨hc, hf⟩ := bcell hb)
      all_goals go_wp2
      all_goals
        go_ret
        refine ⟨ret_str E.out, ?_⟩
        clear E hcv IH' hc hf
        first
          | exact (((Below.refl w.heap.size w).alloc (Nat.le_refl _) _).drew).trans (hb.mono (by simp))
          | exact ((Below.refl w.heap.size w).drew.trans hb).alloc hb.size _

theorem refNat_int (n : Int) (h0 : 0 ≤ n) (hn : n < 18446744073709551616) (w : World) :
    Calls Try.prog 23 #[.int .u64 n] w fun r w' => r = .returned (.string (bstr (natB n.toNat))) ∧ Below w.heap.size w w' := by
  obtain ⟨m, rfl⟩ := Int.eq_ofNat_of_zero_le h0
  exact refNat_any m (by omega) w

set_option maxRecDepth 100000 in
set_option maxHeartbeats 400000 in
theorem refInt_any (n : Int) (hn1 : -9223372036854775808 ≤ n) (hn2 : n ≤ 9223372036854775807) (w : World) :
    Calls Try.prog 24 #[.int .i64 n] w fun r w' => r = .returned (.string (bstr (natB (zz n)))) ∧ Below w.heap.size w w' := by
  by_cases h0 : n < 0
  · go_enter Try.func24, Try.ntmps24
    go_wp2_with fail
    refine (refNat_int _ (by omega) (by omega) _).mono ?_
    rintro r w' ⟨rfl, hb⟩
    go_wp2
    go_ret
    exact ⟨ret_str (by unfold zz; rw [if_neg (by omega)]; congr 2; omega), hb⟩
  · go_enter Try.func24, Try.ntmps24
    go_wp2_with fail
    refine (refNat_int _ (by omega) (by omega) _).mono ?_
    rintro r w' ⟨rfl, hb⟩
    go_wp2
    go_ret
    exact ⟨ret_str (by unfold zz; rw [if_pos (by omega)]), hb⟩

set_option maxRecDepth 100000 in
set_option maxHeartbeats 400000 in
theorem refText_any (l : List UInt8) (hl : l.length ≤ 1000000) (w : World) :
    Calls Try.prog 26 #[.string (bstr l)] w fun r w' => r = .returned (.string (bstr (natB l.length ++ l))) ∧ Below w.heap.size w w' := by
  have z : Hid ((bstr l).size = l.length) := bstr_size l
  have z1 : ((bstr l).size : Int) ≤ 1000000 := by rw [z.out]; omega
  have z2 : ((bstr (natB l.length)).size : Int) ≤ 10 := by rw [bstr_size]; have := natB_ten l.length (by omega); omega
  have E : Hid (bstr (natB l.length) ++ bstr l = bstr (natB l.length ++ l)) := by
    apply WideShapes.bytes_inj
    simp [bstr]
  go_enter Try.func26, Try.ntmps26
  go_wp2_with fail
  refine (refNat_int _ (by omega) (by omega) _).mono ?_
  rintro r w' ⟨rfl, hb⟩
  rw [Int.toNat_natCast, z.out]
  go_wp2
  go_ret
  exact ⟨ret_str E.out, hb⟩

end Go.Proofs.Ytneifmjaploflaa
