/- The contracts of the document's own eye. -/
import Derived.Test.YtneifmjaploflaaRead
namespace Go.Proofs.Ytneifmjaploflaa
open Go.ChangeShapes Go.WideShapes Go.ChangeAt Go.RowKit
open PenMath
set_option linter.unusedVariables false

/-- The document's eye keeps nothing when it is bad. -/
def norm (e : Eye) : Eye := if e.bad then ⟨[], true⟩ else e
theorem norm_bad (e : Eye) (h : e.bad = true) : norm e = ⟨[], true⟩ := by simp [norm, h]
theorem norm_good (e : Eye) (h : e.bad = false) : norm e = e := by simp [norm, h]

theorem EyeAt.sets {t : TypeId} {w : World} {b : Nat} {e : Eye} (h : EyeAt t w b e) : EyeAt t ((w.setCell ⟨b, 1, none⟩ (.bool true)).setCell ⟨b, 0, none⟩ (.string ⟨#[]⟩)) b ⟨[], true⟩ := (h.set1 true).set0 []

set_option maxRecDepth 100000 in
set_option maxHeartbeats 400000 in
theorem refEyeNat_any (b : Nat) (e : Eye) (m : Nat) (w : World) (h : EyeAt 38 w b (norm e)) (hl : e.rest.length ≤ 1000000) :
    Calls Try.prog 14 #[.pointer (some ⟨b, 0, none⟩), .int .u64 m] w fun r w' => r = .returned (.int .u64 (e.nat m).1) ∧ EyeAt 38 w' b (norm (e.nat m).2) ∧ Touch (· = b) w w' := by
  have HS : Hid (∀ w1, Below w.heap.size w w1 → EyeAt 38 w1 b (norm e)) := fun w1 hb => h.kept (F := fun _ => False) (Touch.of_below hb) (fun h => h)
  have h0 := h.c0
  cases hb : e.bad with
  | true =>
    have hn : Hid (e.nat m = (0, e)) := nat_was e m hb
    have hnb : Hid (norm e = ⟨[], true⟩) := norm_bad e hb
    rw [hnb.out] at h0
    have e1 : firN ([] : List UInt8) = 0 := rfl
    have e2 : firK ([] : List UInt8) = 0 := rfl
    clear hb h
    go_enter Try.func14, Try.ntmps14
    go_wp2_with fail
    refine (read_any _ _ (by rw [bstr_size]; simp)).mono ?_
    rintro r w1 ⟨rfl, hb1⟩
    rw [bstr_list, e1, e2]
    have h1 := HS.out w1 hb1
    rw [hnb.out] at h1
    have c0 := h1.c0
    have c1 := h1.c1
    have f0 := h1.fz 0
    have f1 := h1.fz 1
    have H1 : Hid _ := h1
    clear h1
    go_wp2
    go_ret
    rw [hn.out]
    refine ⟨rfl, ?_, ?_⟩
    · rw [hnb.out]; exact EyeAt.sets (e := ⟨[], true⟩) H1.out
    · exact ((Touch.of_below (F := (· = b)) hb1).setCell (p := ⟨b, 1, none⟩) (.inl rfl) _).setCell (p := ⟨b, 0, none⟩) (.inl rfl) _
  | false =>
    have hnb : norm e = e := norm_good e hb
    rw [hnb] at h0 HS
    have HB : Hid (e.bad = false) := hb
    cases hr : rd e.rest with
    | none =>
      have hn : Hid (e.nat m = (0, ⟨e.rest, true⟩)) := nat_none e m hb hr
      obtain ⟨e1, e2⟩ := fir_none _ hr
      clear hb hr h hnb
      go_enter Try.func14, Try.ntmps14
      go_wp2_with fail
      refine (read_any _ _ (by rw [bstr_size]; exact hl)).mono ?_
      rintro r w1 ⟨rfl, hb1⟩
      rw [bstr_list, e1, e2]
      have h1 := HS.out w1 hb1
      have c0 := h1.c0
      have c1 := h1.c1
      rw [HB.out] at c1
      have f0 := h1.fz 0
      have f1 := h1.fz 1
      have H1 : Hid _ := h1
      clear h1
      go_wp2
      go_ret
      rw [hn.out]
      refine ⟨rfl, ?_, ?_⟩
      · exact EyeAt.sets H1.out
      · exact ((Touch.of_below (F := (· = b)) hb1).setCell (p := ⟨b, 1, none⟩) (.inl rfl) _).setCell (p := ⟨b, 0, none⟩) (.inl rfl) _
    | some n =>
      obtain ⟨e1, e2⟩ := fir_some _ _ hr
      have hlen : 0 < (natB n).length := List.length_pos_iff.2 (natB_ne n)
      obtain ⟨hn64, q, hq⟩ := rd_is _ _ hr
      have hlen2 : (natB n).length ≤ e.rest.length := by rw [hq]; simp
      have hlen3 : ((natB n).length : Int) ≤ ((bstr e.rest).size : Int) := by rw [bstr_size]; omega
      clear hq
      by_cases hm : n ≤ m
      · have hn : Hid (e.nat m = (n, ⟨e.rest.drop (natB n).length, false⟩)) := nat_good e m n hb hr hm
        have hx : Hid ((bstr e.rest).extract (natB n).length (bstr e.rest).size = bstr (e.rest.drop (natB n).length)) := extract_bstr _ _ _ (bstr_size _)
        generalize (natB n).length = k at *
        clear hb hr h hnb
        go_enter Try.func14, Try.ntmps14
        go_wp2_with fail
        refine (read_any _ _ (by rw [bstr_size]; exact hl)).mono ?_
        rintro r w1 ⟨rfl, hb1⟩
        rw [bstr_list, e1, e2]
        have h1 := HS.out w1 hb1
        have c0 := h1.c0
        have c1 := h1.c1
        rw [HB.out] at c1
        have f0 := h1.fz 0
        have H1 : Hid _ := h1
        have t1 : ((k : Int) == 0) = false := by simp; omega
        clear h1 e1 e2
        go_wp2
        go_ret
        rw [hn.out, hx.out]
        refine ⟨rfl, ?_, (Touch.of_below (F := (· = b)) hb1).setCell (p := ⟨b, 0, none⟩) (.inl rfl) _⟩
        have := EyeAt.set0 H1.out (e.rest.drop k)
        rw [HB.out] at this
        exact this
      · have hn : Hid (e.nat m = (0, ⟨e.rest, true⟩)) := nat_above e m n hb hr (by omega)
        generalize (natB n).length = k at *
        clear hb hr h hnb
        go_enter Try.func14, Try.ntmps14
        go_wp2_with fail
        refine (read_any _ _ (by rw [bstr_size]; exact hl)).mono ?_
        rintro r w1 ⟨rfl, hb1⟩
        rw [bstr_list, e1, e2]
        have h1 := HS.out w1 hb1
        have c0 := h1.c0
        have c1 := h1.c1
        rw [HB.out] at c1
        have f0 := h1.fz 0
        have f1 := h1.fz 1
        have H1 : Hid _ := h1
        have t1 : ((k : Int) == 0) = false := by simp; omega
        clear h1 e1 e2
        go_wp2
        go_ret
        rw [hn.out]
        refine ⟨rfl, ?_, ?_⟩
        · exact EyeAt.sets H1.out
        · exact ((Touch.of_below (F := (· = b)) hb1).setCell (p := ⟨b, 1, none⟩) (.inl rfl) _).setCell (p := ⟨b, 0, none⟩) (.inl rfl) _

theorem refEyeNat_int (b : Nat) (e : Eye) (m : Int) (w : World) (h : EyeAt 38 w b (norm e)) (hl : e.rest.length ≤ 1000000) (h0 : 0 ≤ m) :
    Calls Try.prog 14 #[.pointer (some ⟨b, 0, none⟩), .int .u64 m] w fun r w' => r = .returned (.int .u64 (e.nat m.toNat).1) ∧ EyeAt 38 w' b (norm (e.nat m.toNat).2) ∧ Touch (· = b) w w' := by
  obtain ⟨n, rfl⟩ := Int.eq_ofNat_of_zero_le h0
  exact refEyeNat_any b e n w h hl

set_option maxRecDepth 100000 in
set_option maxHeartbeats 400000 in
theorem refEyeInt_any (b : Nat) (e : Eye) (w : World) (h : EyeAt 38 w b (norm e)) (hl : e.rest.length ≤ 1000000) :
    Calls Try.prog 16 #[.pointer (some ⟨b, 0, none⟩)] w fun r w' => r = .returned (.int .i64 e.int.1) ∧ EyeAt 38 w' b (norm e.int.2) ∧ Touch (· = b) w w' := by
  have hlt := Eye.nat_lt e 18446744073709551615
  have hd : e.int = (unzz (e.nat 18446744073709551615).1, (e.nat 18446744073709551615).2) := rfl
  have hc := refEyeNat_int b e 18446744073709551615 w h hl (by decide)
  rw [show (18446744073709551615 : Int).toNat = 18446744073709551615 from rfl] at hc
  rw [hd]
  generalize (e.nat 18446744073709551615).1 = n at *
  generalize (e.nat 18446744073709551615).2 = e' at *
  clear hd
  have HC : Hid _ := hc
  clear hc
  by_cases h2 : n % 2 = 0
  · have t1 : (((n : Int) % 2) == 0) = true := by simp; omega
    go_enter Try.func16, Try.ntmps16
    go_wp2_with fail
    refine Calls.mono HC.out ?_
    rintro r w' ⟨rfl, h1', h2'⟩
    go_wp2
    go_ret
    exact ⟨ret_i64 (by unfold unzz; rw [if_pos h2]; omega), h1', h2'⟩
  · have t1 : (((n : Int) % 2) == 0) = false := by simp; omega
    go_enter Try.func16, Try.ntmps16
    go_wp2_with fail
    refine Calls.mono HC.out ?_
    rintro r w' ⟨rfl, h1', h2'⟩
    go_wp2
    go_ret
    exact ⟨ret_i64 (by unfold unzz; rw [if_neg h2]; omega), h1', h2'⟩

set_option maxRecDepth 100000 in
set_option maxHeartbeats 400000 in
theorem refEyeText_any (b : Nat) (e : Eye) (m : Int) (w : World) (h : EyeAt 38 w b (norm e)) (hl : e.rest.length ≤ 1000000) (hm1 : -9223372036854775808 ≤ m) (hm2 : m ≤ 9223372036854775807) :
    Calls Try.prog 18 #[.pointer (some ⟨b, 0, none⟩), .int .i64 m] w fun r w' => r = .returned (.string (bstr (e.text m).1)) ∧ EyeAt 38 w' b (norm (e.text m).2) ∧ Touch (· = b) w w' := by
  have hlt := Eye.nat_lt e m.toNat
  have hsh := Eye.nat_short e m.toNat
  have hc : ∀ k : Int, k.toNat = m.toNat → 0 ≤ k → Calls Try.prog 14 #[.pointer (some ⟨b, 0, none⟩), .int .u64 k] w fun r w' => r = .returned (.int .u64 (e.nat m.toNat).1) ∧ EyeAt 38 w' b (norm (e.nat m.toNat).2) ∧ Touch (· = b) w w' := by
    intro k hk h0
    have := refEyeNat_int b e k w h hl h0
    rw [hk] at this
    exact this
  have tw := text_was e m (e.nat m.toNat).2 (e.nat m.toNat).1 rfl
  have tl := text_long e m (e.nat m.toNat).2 (e.nat m.toNat).1 rfl
  have tg := text_good e m (e.nat m.toNat).2 (e.nat m.toNat).1 rfl
  generalize (e.nat m.toNat).1 = n at *
  generalize (e.nat m.toNat).2 = e' at *
  have HC : Hid _ := hc
  clear hc
  cases hb : e'.bad with
  | true =>
    have TW : Hid _ := tw hb
    have NB : Hid _ := norm_bad e' hb
    clear hb tw tl tg
    by_cases hm : 0 ≤ m
    all_goals
      go_enter Try.func18, Try.ntmps18
      go_wp2_with fail
      refine Calls.mono (HC.out _ (by omega) (by omega)) ?_
      rintro r w' ⟨rfl, h1', h2'⟩
      rw [NB.out] at h1'
      have c0 := h1'.c0
      have c1 := h1'.c1
      have f0 := h1'.fz 0
      have f1 := h1'.fz 1
      go_wp2
      go_ret
      rw [TW.out]
      refine ⟨rfl, ?_, (h2'.setCell (p := ⟨b, 1, none⟩) (.inl rfl) _).setCell (p := ⟨b, 0, none⟩) (.inl rfl) _⟩
      rw [NB.out]
      exact h1'.sets
  | false =>
    have NB : Hid _ := norm_good e' hb
    have HB : Hid _ := hb
    by_cases hn : n ≤ e'.rest.length
    · have TG : Hid _ := tg hb hn
      have hx : Hid ((bstr e'.rest).extract n (bstr e'.rest).size = bstr (e'.rest.drop n)) := extract_bstr _ _ _ (bstr_size _)
      have hx0 : Hid ((bstr e'.rest).extract 0 n = bstr (e'.rest.take n)) := extract0_bstr _ _
      clear hb tw tl tg
      by_cases hm : 0 ≤ m
      all_goals
        go_enter Try.func18, Try.ntmps18
        go_wp2_with fail
        refine Calls.mono (HC.out _ (by omega) (by omega)) ?_
        rintro r w' ⟨rfl, h1', h2'⟩
        rw [NB.out] at h1'
        have c1 := h1'.c1
        have c0 := h1'.c0
        have f0 := h1'.fz 0
        rw [HB.out] at c1
        have hz : ((bstr e'.rest).size : Int) ≤ 1000000 := by rw [bstr_size]; omega
        have hz1 : (n : Int) ≤ ((bstr e'.rest).size : Int) := by rw [bstr_size]; omega
        have hz2 : n ≤ (bstr e'.rest).size := by rw [bstr_size]; omega
        go_wp2
        go_ret
        rw [TG.out]
        rw [hx.out]
        refine ⟨ret_str hx0.out, ?_, h2'.setCell (p := ⟨b, 0, none⟩) (.inl rfl) _⟩
        have := h1'.set0 (e'.rest.drop n)
        rw [HB.out] at this
        exact this
    · have TL : Hid _ := tl hb (by omega)
      clear hb tw tl tg
      by_cases hm : 0 ≤ m
      all_goals
        go_enter Try.func18, Try.ntmps18
        go_wp2_with fail
        refine Calls.mono (HC.out _ (by omega) (by omega)) ?_
        rintro r w' ⟨rfl, h1', h2'⟩
        rw [NB.out] at h1'
        have c1 := h1'.c1
        have c0 := h1'.c0
        have f1 := h1'.fz 1
        have f0 := h1'.fz 0
        rw [HB.out] at c1
        have hz : ((bstr e'.rest).size : Int) ≤ 1000000 := by rw [bstr_size]; omega
        have hz1 : ((bstr e'.rest).size : Int) < (n : Int) := by rw [bstr_size]; omega
        go_wp2
        go_ret
        rw [TL.out]
        exact ⟨rfl, h1'.sets, (h2'.setCell (p := ⟨b, 1, none⟩) (.inl rfl) _).setCell (p := ⟨b, 0, none⟩) (.inl rfl) _⟩

end Go.Proofs.Ytneifmjaploflaa
