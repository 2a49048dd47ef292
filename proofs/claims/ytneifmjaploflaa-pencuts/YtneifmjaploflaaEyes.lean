/- What is known of an eye in memory, what a call may touch, and the contracts of pen's eye. -/
import Derived.Test.YtneifmjaploflaaFirst
import Derived.Lib.Strings
namespace Go.Proofs.Ytneifmjaploflaa
open Go.ChangeShapes Go.WideShapes Go.ChangeAt Go.RowKit
open PenMath
set_option linter.unusedVariables false

/-- Nothing that was there has turned but blocks of F. -/
structure Touch (F : Nat → Prop) (w w' : World) : Prop where
  os : w'.os = w.os
  tape : w'.tape = w.tape
  output : w'.output = w.output
  size : w.heap.size ≤ w'.heap.size
  block : ∀ k, k < w.heap.size → ¬ F k → w'.heap[k]? = w.heap[k]?

theorem Touch.refl (F : Nat → Prop) (w : World) : Touch F w w := ⟨rfl, rfl, rfl, Nat.le_refl _, fun _ _ _ => rfl⟩
theorem Touch.mono {F G : Nat → Prop} {w w' : World} (h : Touch F w w') (hs : ∀ k, k < w.heap.size → F k → G k) : Touch G w w' :=
  ⟨h.os, h.tape, h.output, h.size, fun k hk hg => h.block k hk (fun hf => hg (hs k hk hf))⟩
theorem Touch.trans {F : Nat → Prop} {a b c : World} (h : Touch F a b) (k : Touch F b c) : Touch F a c :=
  ⟨k.os.trans h.os, k.tape.trans h.tape, k.output.trans h.output, Nat.le_trans h.size k.size, fun i hi hf => (k.block i (Nat.lt_of_lt_of_le hi h.size) hf).trans (h.block i hi hf)⟩
theorem Touch.below {F : Nat → Prop} {B : Nat} {w w' : World} (h : Touch F w w') (hB : B ≤ w.heap.size) (hF : ∀ k, F k → B ≤ k) : Below B w w' :=
  ⟨h.os, h.tape, h.output, h.size, fun k hk => h.block k (by omega) (fun f => by have := hF k f; omega)⟩
theorem Touch.of_below {F : Nat → Prop} {w w' : World} (h : Below w.heap.size w w') : Touch F w w' := ⟨h.os, h.tape, h.output, h.size, fun k hk _ => h.block k hk⟩
theorem Touch.drew {F : Nat → Prop} {w w' : World} (h : Touch F w w') : Touch F w w'.drew := ⟨h.os, h.tape, h.output, h.size, h.block⟩
theorem Touch.alloc {F : Nat → Prop} {w w' : World} (h : Touch F w w') (o : Obj) : Touch F w (w'.alloc o) :=
  h.trans ⟨rfl, rfl, rfl, by simp, fun k hk _ => Below.heap_alloc _ _ _ hk⟩
theorem Touch.setCell {F : Nat → Prop} {w w' : World} (h : Touch F w w') {p : Addr} (hp : F p.block ∨ w.heap.size ≤ p.block) (u : Value) : Touch F w (w'.setCell p u) :=
  ⟨h.os, h.tape, h.output, by have := h.size; simpa [World.setCell] using this, fun k hk hf => (Below.heap_setCell _ _ _ _ (by rintro rfl; rcases hp with hp | hp; exact hf hp; omega)).trans (h.block k hk hf)⟩
theorem Touch.cell {F : Nat → Prop} {w w' : World} (h : Touch F w w') {p : Addr} (hp : p.block < w.heap.size) (hf : ¬ F p.block) : w'.cell? p = w.cell? p := World.cell?_of_block (w := w) (h.block p.block hp hf)

/-- The bytes of a list. -/
def bstr (l : List UInt8) : ByteArray := ⟨l.toArray⟩
theorem bstr_list (l : List UInt8) : (bstr l).data.toList = l := by simp [bstr]
theorem bstr_size (l : List UInt8) : (bstr l).size = l.length := by simp [bstr, ByteArray.size]
theorem bstr_of (s : ByteArray) : bstr s.data.toList = s := by cases s; simp [bstr]
theorem bstr_eq {s : ByteArray} {l : List UInt8} (h : s.data.toList = l) : s = bstr l := by rw [← h, bstr_of]

/-- An eye of type t lies at block b: what is left, and whether something was wrong. -/
def EyeAt (t : TypeId) (w : World) (b : Nat) (e : Eye) : Prop := w.heap[b]? = some (.cells #[.string (bstr e.rest), .bool e.bad] t (0, 0))

section
variable {t : TypeId} {w : World} {b : Nat} {e : Eye}
theorem EyeAt.c0 (h : EyeAt t w b e) : w.cell? ⟨b, 0, none⟩ = some (.string (bstr e.rest)) := by unfold EyeAt at h; simp [World.cell?, h]
theorem EyeAt.c1 (h : EyeAt t w b e) : w.cell? ⟨b, 1, none⟩ = some (.bool e.bad) := by unfold EyeAt at h; simp [World.cell?, h]
theorem EyeAt.fz (h : EyeAt t w b e) (o : Nat) : w.frozen? ⟨b, o, none⟩ = false := by unfold EyeAt at h; simp [World.frozen?, h]
theorem EyeAt.lt (h : EyeAt t w b e) : b < w.heap.size := (Array.getElem?_eq_some_iff.1 h).1
theorem EyeAt.kept {F : Nat → Prop} {w' : World} (h : EyeAt t w b e) (ht : Touch F w w') (hf : ¬ F b) : EyeAt t w' b e := by
  have := h.lt
  unfold EyeAt at h ⊢
  rw [ht.block b this hf, h]
theorem EyeAt.set1 (h : EyeAt t w b e) (x : Bool) : EyeAt t (w.setCell ⟨b, 1, none⟩ (.bool x)) b ⟨e.rest, x⟩ := by
  unfold EyeAt at h ⊢
  simp only [World.setCell, Array.getElem?_modify]
  simp [h]
theorem EyeAt.set0 (h : EyeAt t w b e) (l : List UInt8) : EyeAt t (w.setCell ⟨b, 0, none⟩ (.string (bstr l))) b ⟨l, e.bad⟩ := by
  unfold EyeAt at h ⊢
  simp only [World.setCell, Array.getElem?_modify]
  simp [h]
end

theorem bad_nil (w : World) : Calls Try.prog 19 #[.pointer none] w fun e w' => e = .returned (.bool true) ∧ w' = w := by
  go_enter Try.func19, Try.ntmps19
  go_wp2
  go_ret
  exact ⟨rfl, rfl⟩

theorem bad_any (b : Nat) (x : Bool) (w : World) (h : w.cell? ⟨b, 1, none⟩ = some (.bool x)) : Calls Try.prog 19 #[.pointer (some ⟨b, 0, none⟩)] w fun e w' => e = .returned (.bool x) ∧ w' = w := by
  go_enter Try.func19, Try.ntmps19
  go_wp2
  go_ret
  exact ⟨rfl, rfl⟩

theorem toList_bstr (l : List UInt8) : (bstr l).toList = l := by rw [ByteArray.toList_eq, bstr_list]
theorem ret_bool {a b : Bool} (h : a = b) : Ending.returned (.bool a) = .returned (.bool b) := by rw [h]
theorem ret_u64 {a b : Int} (h : a = b) : Ending.returned (.int .u64 a) = .returned (.int .u64 b) := by rw [h]
theorem ret_i64 {a b : Int} (h : a = b) : Ending.returned (.int .i64 a) = .returned (.int .i64 b) := by rw [h]
theorem ret_str {a b : ByteArray} (h : a = b) : Ending.returned (.string a) = .returned (.string b) := by rw [h]

theorem done_nil (w : World) : Calls Try.prog 20 #[.pointer none] w fun e w' => e = .returned (.bool false) ∧ w' = w := by
  go_enter Try.func20, Try.ntmps20
  go_wp2_with (go_at_call 19; refine (bad_nil _).mono ?_; rintro e w' ⟨rfl, rfl⟩)
  go_ret
  exact ⟨rfl, rfl⟩

set_option maxHeartbeats 400000 in
theorem done_any (b : Nat) (e : Eye) (w : World) (h : EyeAt 52 w b e) : Calls Try.prog 20 #[.pointer (some ⟨b, 0, none⟩)] w fun r w' => r = .returned (.bool (!e.bad && e.rest.isEmpty)) ∧ w' = w := by
  have h0 := h.c0
  have h1 := h.c1
  cases hb : e.bad with
  | true =>
    rw [hb] at h1
    go_enter Try.func20, Try.ntmps20
    go_wp2_with (go_at_call 19; refine (bad_any _ _ _ h1).mono ?_; rintro e w' ⟨rfl, rfl⟩)
    go_ret
    exact ⟨rfl, rfl⟩
  | false =>
    rw [hb] at h1
    go_enter Try.func20, Try.ntmps20
    go_wp2_with (go_at_call 19; refine (bad_any _ _ _ h1).mono ?_; rintro e w' ⟨rfl, rfl⟩)
    go_ret
    exact ⟨ret_bool (by rw [toList_bstr]; rfl), rfl⟩

/-- Of: an eye at a text's beginning, in a new block. -/
theorem of_any (l : List UInt8) (w : World) : Calls Try.prog 12 #[.string (bstr l)] w fun r w' => r = .returned (.pointer (some ⟨w.heap.size, 0, none⟩)) ∧ EyeAt 52 w' w.heap.size ⟨l, false⟩ ∧ Below w.heap.size w w' ∧ w'.heap.size = w.heap.size + 1 := by
  go_enter Try.func12, Try.ntmps12
  go_wp2
  go_ret
  refine ⟨rfl, ?_, (Below.refl _ _).alloc (Nat.le_refl _) _, ?_⟩
  · exact heap_alloc_new _ _
  · simp

theorem eyeNat_nil (m : Int) (w : World) : Calls Try.prog 13 #[.pointer none, .int .u64 m] w fun e w' => e = .returned (.int .u64 0) ∧ w' = w := by
  go_enter Try.func13, Try.ntmps13
  go_wp2_with (go_at_call 19; refine (bad_nil _).mono ?_; rintro e w' ⟨rfl, rfl⟩)
  go_ret
  exact ⟨rfl, rfl⟩

theorem nat_none (e : Eye) (m : Nat) (hb : e.bad = false) (hr : rd e.rest = none) : e.nat m = (0, ⟨e.rest, true⟩) := by simp [Eye.nat, hb, hr]
theorem nat_above (e : Eye) (m n : Nat) (hb : e.bad = false) (hr : rd e.rest = some n) (hn : m < n) : e.nat m = (0, ⟨e.rest, true⟩) := by simp [Eye.nat, hb, hr, show ¬ n ≤ m by omega]
theorem nat_good (e : Eye) (m n : Nat) (hb : e.bad = false) (hr : rd e.rest = some n) (hn : n ≤ m) : e.nat m = (n, ⟨e.rest.drop (natB n).length, false⟩) := by simp [Eye.nat, hb, hr, hn]
theorem nat_was (e : Eye) (m : Nat) (hb : e.bad = true) : e.nat m = (0, e) := by simp [Eye.nat, hb]

theorem extract_bstr (l : List UInt8) (k n : Nat) (hn : n = l.length) : (bstr l).extract k n = bstr (l.drop k) := by
  apply WideShapes.bytes_inj
  subst hn
  rw [Lib.extract_data, bstr_list, bstr_list, List.take_of_length_le (by simp)]
theorem extract0_bstr (l : List UInt8) (n : Nat) : (bstr l).extract 0 n = bstr (l.take n) := by
  apply WideShapes.bytes_inj
  rw [Lib.extract_data, bstr_list, bstr_list]
  simp

set_option maxRecDepth 100000 in
set_option maxHeartbeats 400000 in
theorem eyeNat_any (b : Nat) (e : Eye) (m : Nat) (w : World) (h : EyeAt 52 w b e) (hl : e.rest.length ≤ maxLen) :
    Calls Try.prog 13 #[.pointer (some ⟨b, 0, none⟩), .int .u64 m] w fun r w' => r = .returned (.int .u64 (e.nat m).1) ∧ EyeAt 52 w' b (e.nat m).2 ∧ Touch (· = b) w w' := by
  have h0 := h.c0
  have h1 := h.c1
  have f1 := h.fz 1
  have f0 := h.fz 0
  have hT := fun u => (Touch.refl (· = b) w).setCell (p := ⟨b, 1, none⟩) (.inl rfl) u
  have hT0 := fun u => (Touch.refl (· = b) w).setCell (p := ⟨b, 0, none⟩) (.inl rfl) u
  have hsz : (bstr e.rest).size ≤ maxLen := by rw [bstr_size]; exact hl
  have H : Hid (EyeAt 52 w b e) := h
  have HT : Hid (∀ u, Touch (· = b) w (w.setCell ⟨b, 1, none⟩ u)) := hT
  have HT0 : Hid (∀ u, Touch (· = b) w (w.setCell ⟨b, 0, none⟩ u)) := hT0
  clear hT hT0 h
  cases hb : e.bad with
  | true =>
    rw [hb] at h1
    have hn : Hid (e.nat m = (0, e)) := nat_was e m hb
    clear hb
    go_enter Try.func13, Try.ntmps13
    go_wp2_with (go_at_call 19; refine (bad_any _ _ _ h1).mono ?_; rintro e w' ⟨rfl, rfl⟩)
    go_ret
    rw [hn.out]
    exact ⟨rfl, H.out, Touch.refl _ _⟩
  | false =>
    rw [hb] at h1
    cases hr : rd e.rest with
    | none =>
      have hn : Hid (e.nat m = (0, ⟨e.rest, true⟩)) := nat_none e m hb hr
      obtain ⟨e1, e2⟩ := fir_none _ hr
      clear hb hr
      go_enter Try.func13, Try.ntmps13
      go_wp2_with fail
      refine (bad_any _ _ _ h1).mono ?_
      rintro r w' ⟨rfl, rfl⟩
      go_wp2_with fail
      refine (first_any _ _ hsz).mono ?_
      rintro r w' ⟨rfl, rfl⟩
      rw [bstr_list, e1, e2]
      go_wp2
      go_ret
      rw [hn.out]
      exact ⟨rfl, H.out.set1 true, HT.out _⟩
    | some n =>
      obtain ⟨e1, e2⟩ := fir_some _ _ hr
      have hlen : 0 < (natB n).length := List.length_pos_iff.2 (natB_ne n)
      obtain ⟨hn64, q, hq⟩ := rd_is _ _ hr
      have hlen2 : (natB n).length ≤ e.rest.length := by rw [hq]; simp
      have hlen3 : ((natB n).length : Int) ≤ ((bstr e.rest).size : Int) := by rw [bstr_size]; omega
      clear hq
      by_cases hm : n ≤ m
      · have hn : Hid (e.nat m = (n, ⟨e.rest.drop (natB n).length, false⟩)) := nat_good e m n hb hr hm
        have hx : Hid ((bstr e.rest).extract (natB n).length (bstr e.rest).size = bstr (e.rest.drop (natB n).length)) := extract_bstr _ _ _ (bstr_size _)
        have Hb : Hid (e.bad = false) := hb
        generalize (natB n).length = k at *
        clear hb hr
        go_enter Try.func13, Try.ntmps13
        go_wp2_with fail
        refine (bad_any _ _ _ h1).mono ?_
        rintro r w' ⟨rfl, rfl⟩
        go_wp2_with fail
        refine (first_any _ _ hsz).mono ?_
        rintro r w' ⟨rfl, rfl⟩
        rw [bstr_list, e1, e2]
        clear e1 e2
        have t1 : ((k : Int) == 0) = false := by simp; omega
        go_wp2
        go_ret
        rw [hn.out, hx.out]
        refine ⟨rfl, ?_, HT0.out _⟩
        have := H.out.set0 (e.rest.drop k)
        rw [Hb.out] at this
        exact this
      · have hn : Hid (e.nat m = (0, ⟨e.rest, true⟩)) := nat_above e m n hb hr (by omega)
        generalize (natB n).length = k at *
        clear hb hr
        go_enter Try.func13, Try.ntmps13
        go_wp2_with fail
        refine (bad_any _ _ _ h1).mono ?_
        rintro r w' ⟨rfl, rfl⟩
        go_wp2_with fail
        refine (first_any _ _ hsz).mono ?_
        rintro r w' ⟨rfl, rfl⟩
        rw [bstr_list, e1, e2]
        clear e1 e2
        have t1 : ((k : Int) == 0) = false := by simp; omega
        go_wp2
        go_ret
        rw [hn.out]
        exact ⟨rfl, H.out.set1 true, HT.out _⟩

theorem eyeNat_int (b : Nat) (e : Eye) (m : Int) (w : World) (h : EyeAt 52 w b e) (hl : e.rest.length ≤ maxLen) (h0 : 0 ≤ m) :
    Calls Try.prog 13 #[.pointer (some ⟨b, 0, none⟩), .int .u64 m] w fun r w' => r = .returned (.int .u64 (e.nat m.toNat).1) ∧ EyeAt 52 w' b (e.nat m.toNat).2 ∧ Touch (· = b) w w' := by
  obtain ⟨n, rfl⟩ := Int.eq_ofNat_of_zero_le h0
  exact eyeNat_any b e n w h hl

theorem u64_not (a : Nat) (ha : a < 18446744073709551616) : bits .xor .u64 IntKind.u64.max (a : Int) = 18446744073709551615 - (a : Int) := by
  show IntKind.u64.wrap ((BitVec.ofInt 64 IntKind.u64.max ^^^ BitVec.ofInt 64 (a : Int)).toNat : Int) = _
  have h1 : BitVec.ofInt 64 IntKind.u64.max = BitVec.allOnes 64 := by decide
  rw [h1, BitVec.allOnes_xor, BitVec.toNat_not, ofInt_u64 a (by omega)]
  simp [IntKind.wrap, IntKind.bits, IntKind.signed]
  omega

theorem not_unzz (n : Nat) (hlt : n < 18446744073709551616) (h2 : n % 2 = 1) : wrap64 (bits .xor .u64 IntKind.u64.max ((n : Int) / 2)) = unzz n := by
  rw [show ((n : Int) / 2) = ((n / 2 : Nat) : Int) by omega, u64_not _ (by omega)]
  unfold unzz wrap64
  rw [if_neg (by omega)]
  omega

theorem eyeInt_nil (w : World) : Calls Try.prog 15 #[.pointer none] w fun e w' => e = .returned (.int .i64 0) ∧ w' = w := by
  go_enter Try.func15, Try.ntmps15
  go_wp2_with (go_at_call 13; refine (eyeNat_nil _ _).mono ?_; rintro e w' ⟨rfl, rfl⟩)
  go_ret
  exact ⟨rfl, rfl⟩

set_option maxRecDepth 100000 in
set_option maxHeartbeats 400000 in
theorem eyeInt_any (b : Nat) (e : Eye) (w : World) (h : EyeAt 52 w b e) (hl : e.rest.length ≤ maxLen) :
    Calls Try.prog 15 #[.pointer (some ⟨b, 0, none⟩)] w fun r w' => r = .returned (.int .i64 e.int.1) ∧ EyeAt 52 w' b e.int.2 ∧ Touch (· = b) w w' := by
  have hlt := Eye.nat_lt e 18446744073709551615
  have hd : e.int = (unzz (e.nat 18446744073709551615).1, (e.nat 18446744073709551615).2) := rfl
  have hc := eyeNat_int b e 18446744073709551615 w h hl (by decide)
  rw [show (18446744073709551615 : Int).toNat = 18446744073709551615 from rfl] at hc
  rw [hd]
  generalize (e.nat 18446744073709551615).1 = n at *
  generalize (e.nat 18446744073709551615).2 = e' at *
  clear hd
  have HC := hc
  have HC' : Hid _ := HC
  clear hc HC
  by_cases h2 : n % 2 = 1
  · have t1 : (((n : Int) % 2) == 1) = true := by simp; omega
    go_enter Try.func15, Try.ntmps15
    go_wp2_with fail
    refine Calls.mono HC'.out ?_
    rintro r w' ⟨rfl, h1', h2'⟩
    go_wp2
    go_ret
    exact ⟨ret_i64 (not_unzz n hlt h2), h1', h2'⟩
  · have t1 : (((n : Int) % 2) == 1) = false := by simp; omega
    go_enter Try.func15, Try.ntmps15
    go_wp2_with fail
    refine Calls.mono HC'.out ?_
    rintro r w' ⟨rfl, h1', h2'⟩
    go_wp2
    go_ret
    exact ⟨ret_i64 (by unfold unzz; rw [if_pos (by omega)]; omega), h1', h2'⟩

theorem eyeText_nil (m : Int) (w : World) : Calls Try.prog 17 #[.pointer none, .int .i64 m] w fun e w' => e = .returned (.string ByteArray.empty) ∧ w' = w := by
  go_enter Try.func17, Try.ntmps17
  go_wp2_with (first | (go_at_call 13; refine (eyeNat_nil _ _).mono ?_; rintro e w' ⟨rfl, rfl⟩) | (go_at_call 19; refine (bad_nil _).mono ?_; rintro e w' ⟨rfl, rfl⟩))
  all_goals
    go_ret
    exact ⟨rfl, rfl⟩

theorem text_was (e : Eye) (m : Int) (e' : Eye) (n : Nat) (h : e.nat m.toNat = (n, e')) (hb : e'.bad = true) : e.text m = ([], e') := by simp [Eye.text, h, hb]
theorem text_long (e : Eye) (m : Int) (e' : Eye) (n : Nat) (h : e.nat m.toNat = (n, e')) (hb : e'.bad = false) (hn : e'.rest.length < n) : e.text m = ([], ⟨e'.rest, true⟩) := by
  simp [Eye.text, h, hb, show ¬ n ≤ e'.rest.length by omega]
theorem text_good (e : Eye) (m : Int) (e' : Eye) (n : Nat) (h : e.nat m.toNat = (n, e')) (hb : e'.bad = false) (hn : n ≤ e'.rest.length) : e.text m = (e'.rest.take n, ⟨e'.rest.drop n, false⟩) := by
  simp [Eye.text, h, hb, hn]

set_option maxRecDepth 100000 in
set_option maxHeartbeats 400000 in
theorem eyeText_any (b : Nat) (e : Eye) (m : Int) (w : World) (h : EyeAt 52 w b e) (hl : e.rest.length ≤ 1000000) (hm1 : -9223372036854775808 ≤ m) (hm2 : m ≤ 9223372036854775807) :
    Calls Try.prog 17 #[.pointer (some ⟨b, 0, none⟩), .int .i64 m] w fun r w' => r = .returned (.string (bstr (e.text m).1)) ∧ EyeAt 52 w' b (e.text m).2 ∧ Touch (· = b) w w' := by
  have hlt := Eye.nat_lt e m.toNat
  have hsh := Eye.nat_short e m.toNat
  have hc : ∀ k : Int, k.toNat = m.toNat → 0 ≤ k → Calls Try.prog 13 #[.pointer (some ⟨b, 0, none⟩), .int .u64 k] w fun r w' => r = .returned (.int .u64 (e.nat m.toNat).1) ∧ EyeAt 52 w' b (e.nat m.toNat).2 ∧ Touch (· = b) w w' := by
    intro k hk h0
    have := eyeNat_int b e k w h (by unfold maxLen; omega) h0
    rw [hk] at this
    exact this
  have tw := text_was e m (e.nat m.toNat).2 (e.nat m.toNat).1 rfl
  have tl := text_long e m (e.nat m.toNat).2 (e.nat m.toNat).1 rfl
  have tg := text_good e m (e.nat m.toNat).2 (e.nat m.toNat).1 rfl
  generalize (e.nat m.toNat).1 = n at *
  generalize (e.nat m.toNat).2 = e' at *
  have HC : Hid _ := hc
  clear hc
  cases hb : e'.bad with
  | true =>
    have TW : Hid _ := tw hb
    have HB : Hid _ := hb
    clear hb tw tl tg
    by_cases hm : 0 ≤ m
    all_goals
      go_enter Try.func17, Try.ntmps17
      go_wp2_with fail
      refine Calls.mono (HC.out _ (by omega) (by omega)) ?_
      rintro r w' ⟨rfl, h1', h2'⟩
      have c1 := h1'.c1
      rw [HB.out] at c1
      go_wp2_with (go_at_call 19; refine (bad_any _ _ _ c1).mono ?_; rintro e w' ⟨rfl, rfl⟩)
      go_ret
      rw [TW.out]
      exact ⟨rfl, h1', h2'⟩
  | false =>
    by_cases hn : n ≤ e'.rest.length
    · have TG : Hid _ := tg hb hn
      have HB : Hid _ := hb
      have hx : Hid ((bstr e'.rest).extract n (bstr e'.rest).size = bstr (e'.rest.drop n)) := extract_bstr _ _ _ (bstr_size _)
      have hx0 : Hid ((bstr e'.rest).extract 0 n = bstr (e'.rest.take n)) := extract0_bstr _ _
      clear hb tw tl tg
      by_cases hm : 0 ≤ m
      all_goals
        go_enter Try.func17, Try.ntmps17
        go_wp2_with fail
        refine Calls.mono (HC.out _ (by omega) (by omega)) ?_
        rintro r w' ⟨rfl, h1', h2'⟩
        have c1 := h1'.c1
        have c0 := h1'.c0
        have f0 := h1'.fz 0
        rw [HB.out] at c1
        have hz : ((bstr e'.rest).size : Int) ≤ 1000000 := by rw [bstr_size]; omega
        have hz1 : (n : Int) ≤ ((bstr e'.rest).size : Int) := by rw [bstr_size]; omega
        have hz2 : n ≤ (bstr e'.rest).size := by rw [bstr_size]; omega
        go_wp2_with (go_at_call 19; refine (bad_any _ _ _ c1).mono ?_; rintro e w' ⟨rfl, rfl⟩)
        go_ret
        rw [TG.out]
        rw [hx.out]
        refine ⟨ret_str hx0.out, ?_, h2'.setCell (p := ⟨b, 0, none⟩) (.inl rfl) _⟩
        have := h1'.set0 (e'.rest.drop n)
        rw [HB.out] at this
        exact this
    · have TL : Hid _ := tl hb (by omega)
      have HB : Hid _ := hb
      clear hb tw tl tg
      by_cases hm : 0 ≤ m
      all_goals
        go_enter Try.func17, Try.ntmps17
        go_wp2_with fail
        refine Calls.mono (HC.out _ (by omega) (by omega)) ?_
        rintro r w' ⟨rfl, h1', h2'⟩
        have c1 := h1'.c1
        have c0 := h1'.c0
        have f1 := h1'.fz 1
        rw [HB.out] at c1
        have hz : ((bstr e'.rest).size : Int) ≤ 1000000 := by rw [bstr_size]; omega
        have hz1 : ((bstr e'.rest).size : Int) < (n : Int) := by rw [bstr_size]; omega
        go_wp2_with (go_at_call 19; refine (bad_any _ _ _ c1).mono ?_; rintro e w' ⟨rfl, rfl⟩)
        go_ret
        rw [TL.out]
        exact ⟨rfl, h1'.set1 true, h2'.setCell (p := ⟨b, 1, none⟩) (.inl rfl) _⟩

end Go.Proofs.Ytneifmjaploflaa
