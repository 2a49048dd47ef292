/- What is known of a pen in memory, and the contracts of pen's pen. -/
import Derived.Test.YtneifmjaploflaaEyes
import Derived.Test.YtneifmjaploflaaApps
import Derived.Laws.BytesArg
namespace Go.Proofs.Ytneifmjaploflaa
open Go.ChangeShapes Go.WideShapes Go.ChangeAt Go.RowKit
open PenMath
set_option linter.unusedVariables false

/-- Bytes as cells. -/
def bvals (l : List UInt8) : List Value := l.map fun b => Value.int .u8 b.toNat
theorem bvals_len (l : List UInt8) : (bvals l).length = l.length := by simp [bvals]
theorem bvals_app (l m : List UInt8) : bvals (l ++ m) = bvals l ++ bvals m := by simp [bvals]

/-- A pen lies at block b, its bytes l in the row v, in blocks from base on. -/
structure PenAt (base : Nat) (w : World) (b : Nat) (v : Value) (l : List UInt8) : Prop where
  here : w.heap[b]? = some (.cells #[v] 26 (0, 0))
  lt : b < base
  room : base ≤ w.heap.size
  row : w.ownsRow base 5 1 v l.length (bvals l)

/-- What a pen may touch: its block, and its row's. -/
def Own (b : Nat) (v : Value) (k : Nat) : Prop := k = b ∨ v.ownBlock = some k

section
variable {base : Nat} {w : World} {b : Nat} {v : Value} {l : List UInt8}
theorem PenAt.cell (h : PenAt base w b v l) : w.cell? ⟨b, 0, none⟩ = some v := by have := h.here; simp [World.cell?, this]
theorem PenAt.fz (h : PenAt base w b v l) : w.frozen? ⟨b, 0, none⟩ = false := by have := h.here; simp [World.frozen?, this]
theorem PenAt.size (h : PenAt base w b v l) : b < w.heap.size := Nat.lt_of_lt_of_le h.lt h.room
theorem PenAt.from (h : PenAt base w b v l) : ∀ k, v.ownBlock = some k → base ≤ k ∧ k < w.heap.size := h.row.lt

theorem ownsRow_of_block {w' : World} {e : TypeId} {size n : Nat} {xs : List Value} (h : w.ownsRow base e size v n xs) (hb : ∀ k, v.ownBlock = some k → w'.heap[k]? = w.heap[k]?) : w'.ownsRow base e size v n xs := by
  refine ⟨h.1, ?_⟩
  rcases h.2 with h2 | ⟨g, cap, cur, hv, hg, hh, r⟩
  · exact .inl h2
  · exact .inr ⟨g, cap, cur, hv, hg, by rw [hb g (by rw [hv]; rfl)]; exact hh, r⟩

theorem PenAt.kept {F : Nat → Prop} {w' : World} (h : PenAt base w b v l) (ht : Touch F w w') (hf : ∀ k, Own b v k → ¬ F k) : PenAt base w' b v l :=
  ⟨(ht.block b h.size (hf b (.inl rfl))).trans h.here, h.lt, Nat.le_trans h.room ht.size, ownsRow_of_block h.row fun k hk => ht.block k (h.from k hk).2 (hf k (.inr hk))⟩

/-- Behind an append, and the store of the new row. -/
theorem PenAt.next {wa w1 : World} {v' : Value} {m : List UInt8} (h : PenAt base w b v l) (hb : Below w.heap.size w wa) (hown : w1.ownsRow base 5 1 v' (l.length + m.length) (bvals l ++ bvals m)) (hg : wa.grownBy w1 v.ownBlock) (hlies : Lies wa v v') :
    PenAt base (w1.setCell ⟨b, 0, none⟩ v') b v' (l ++ m) ∧ Touch (Own b v) w (w1.setCell ⟨b, 0, none⟩ v') ∧ Lies w v v' := by
  have hsz := hb.size
  have hbs := h.size
  have hhere : w1.heap[b]? = some (.cells #[v] 26 (0, 0)) := by
    rw [hg.block b (by omega) (fun e => by have := (h.from b e.symm).1; have := h.lt; omega), hb.block b hbs]
    exact h.here
  have ht1 : Touch (Own b v) w w1 := ⟨hg.os.trans hb.os, hg.tape.trans hb.tape, hg.output.trans hb.output, Nat.le_trans hsz hg.size, fun k hk hf => (hg.block k (by omega) (fun e => hf (.inr e.symm))).trans (hb.block k hk)⟩
  refine ⟨⟨?_, h.lt, ?_, ?_⟩, ht1.setCell (.inl (.inl rfl)) _, fun k hk => ?_⟩
  · simp only [World.setCell, Array.getElem?_modify]
    simp [hhere]
  · have := ht1.size
    have := h.room
    simp [World.setCell]; omega
  · rw [List.length_append, bvals_app]
    exact ownsRow_setCell_below hown (a := ⟨b, 0, none⟩) h.lt _
  · rcases hlies k hk with h1 | h1
    · exact .inl h1
    · right; omega

theorem PenAt.mid {wa w1 : World} (h : PenAt base w b v l) (hb : Below w.heap.size w wa) (hg : wa.grownBy w1 v.ownBlock) : w1.cell? ⟨b, 0, none⟩ = some v ∧ w1.frozen? ⟨b, 0, none⟩ = false := by
  have hsz := hb.size
  have hbs := h.size
  have hhere : w1.heap[b]? = some (.cells #[v] 26 (0, 0)) := by
    rw [hg.block b (by omega) (fun e => by have := (h.from b e.symm).1; have := h.lt; omega), hb.block b hbs]
    exact h.here
  exact ⟨by simp [World.cell?, hhere], by simp [World.frozen?, hhere]⟩
end

set_option maxRecDepth 100000 in
theorem or128 (q : Nat) : bits .or .u8 ((q : Int) % 256) 128 = ((q % 128 + 128 : Nat) : Int) := by
  have e : ((q : Int) % 256) = ((q % 256 : Nat) : Int) := by omega
  rw [e]
  have := u8_or_nat (q % 256) 128 (by omega) (by omega)
  rw [show ((128 : Nat) : Int) = 128 from rfl] at this
  rw [this]
  congr 1
  have h2 : ∀ x : Fin 256, x.val ||| 128 = x.val % 128 + 128 := by decide
  have := h2 ⟨q % 256, by omega⟩
  simp only at this
  rw [this]
  omega

theorem bvals_one (n : Nat) (h : n < 256) : bvals [UInt8.ofNat n] = [.int .u8 (n : Int)] := by simp [bvals]; omega

theorem row_slice {w : World} {base : Nat} {e : TypeId} {size n : Nat} {v : Value} {xs : List Value} (h : w.ownsRow base e size v n xs) : ∃ a m c, v = .slice a m c := by
  rcases h.2 with ⟨rfl, _⟩ | ⟨g, cap, cur, rfl, _⟩
  · exact ⟨_, _, _, rfl⟩
  · exact ⟨_, _, _, rfl⟩

theorem Lies.trans {w w1 : World} {a b c : Value} (h : Lies w a b) (h2 : Lies w1 b c) (hs : w.heap.size ≤ w1.heap.size) : Lies w a c := by
  intro k hk
  rcases h2 k hk with h3 | h3
  · exact h k h3
  · right; omega

theorem Own.trans {w w1 : World} {b : Nat} {v v1 : Value} (h : Lies w v v1) : ∀ k, k < w.heap.size → Own b v1 k → Own b v k := by
  intro k hk ho
  rcases ho with h1 | h1
  · exact .inl h1
  · rcases h k h1 with h2 | h2
    · exact .inr h2
    · omega

/-- One behind the other. -/
theorem touch_own {w w1 w2 : World} {b : Nat} {v v1 : Value} (h : Touch (Own b v) w w1) (hl : Lies w v v1) (h2 : Touch (Own b v1) w1 w2) : Touch (Own b v) w w2 :=
  ⟨h2.os.trans h.os, h2.tape.trans h.tape, h2.output.trans h.output, Nat.le_trans h.size h2.size, fun k hk hf =>
    (h2.block k (Nat.lt_of_lt_of_le hk h.size) (fun ho => hf (Own.trans (w1 := w1) hl k hk ho))).trans (h.block k hk hf)⟩

/-- A pen that was just made. -/
theorem pen_new (w : World) (base : Nat) (o : Nat) (hb : w.heap[o]? = some (.cells #[.slice none 0 0] 26 (0, 0))) (h1 : o < base) (h2 : base ≤ w.heap.size) : PenAt base w o (.slice none 0 0) [] :=
  ⟨hb, h1, h2, World.ownsRow_nil _ _ _ _⟩

theorem Try.info5 : (Try.prog.info? 5).map (fun i => (i.zero, i.size, i.bytes)) = some (some (.int .u8 0), 1, 1) := by kernel_rfl

theorem penNat_nil (n : Int) (w : World) : Calls Try.prog 21 #[.pointer none, .int .u64 n] w fun e w' => e = .returned (.tuple #[]) ∧ w' = w := by
  go_enter Try.func21, Try.ntmps21
  go_wp2
  refine bodyPost_ret (results_none rfl _ _ _) rfl ?_
  exact ⟨rfl, rfl⟩

set_option maxRecDepth 100000 in
set_option maxHeartbeats 400000 in
theorem penNat_any (base b : Nat) (v : Value) (l : List UInt8) (n : Nat) (w : World) (h : PenAt base w b v l) (hn : n < 18446744073709551616) (hl : l.length ≤ 1000000000) :
    Calls Try.prog 21 #[.pointer (some ⟨b, 0, none⟩), .int .u64 n] w fun r w' => r = .returned (.tuple #[]) ∧ ∃ v', PenAt base w' b v' (l ++ natB n) ∧ Touch (Own b v) w w' ∧ Lies w v v' := by
  obtain ⟨i0, hi, hz0, hz1, hz2⟩ := info_parts Try.info5
  go_enter Try.func21, Try.ntmps21
  go_wp2
  go_loopw [1] (fun t wr => ∃ (q : Nat) (d : List UInt8) (v1 : Value), t = .int .u64 q ∧ q < 18446744073709551616 ∧ Hid (natB n = d ++ natB q) ∧ PenAt base wr b v1 (l ++ d) ∧ Touch (Own b v) w wr ∧ Lies w v v1) (fun t _ => (intOf t).toNat)
  case atStart => exact ⟨n, [], v, rfl, hn, rfl, by simpa using h, Touch.refl _ _, fun k hk => .inl hk⟩
  case round =>
    obtain ⟨q, d, v1, rfl, hq, hd, hp, ht, hlies⟩ := hrel
    have hc := hp.cell
    have hf := hp.fz
    have hdl : d.length ≤ 10 := by
      have h1 := natB_ten n hn
      rw [hd.out] at h1
      simp at h1
      omega
    have hll : (l ++ d).length ≤ 1000000010 := by simp; omega
    have X : Hid (l ++ natB n = (l ++ d) ++ natB q) := by rw [Hid, hd.out, List.append_assoc]
    have X2 : Hid (∀ c, l ++ (d ++ [c]) = (l ++ d) ++ [c]) := fun c => by rw [List.append_assoc]
    generalize l ++ d = ld at *
    by_cases hlt : q < 128
    · have hq1 : Hid (natB q = [UInt8.ofNat q]) := natB_lt q hlt
      go_wp2_with (at_builtin; refine wpList_append_bytes _ rfl (.tmp 26) (.tmp 29) 24 rfl base 5 i0 Try.underlying24 hi hz0 hz1 hz2 v1 ld.length (bvals ld) rfl (hp.row.alloc _) ⟨wr.heap.size, 0, none⟩ 1 1 [.int .u8 (q : Int)] rfl rfl (cell_one_new _ _ _) ?c2 ?c3 ?c4 ?c5 ?_)
      case c2 => intro u hu; simp at hu; subst hu; rfl
      case c3 => unfold maxLen; omega
      case c4 => omega
      case c5 => have := hp.room; simp; omega
      intro v' w1 hown' hgrow hlies'
      have hbl := (Below.refl wr.heap.size wr).alloc (Nat.le_refl _) (.cells #[.int .u8 (q : Int)] 5)
      obtain ⟨N1, N2, N3⟩ := hp.next (m := [UInt8.ofNat q]) hbl (by rw [bvals_one q (by omega)]; exact hown') hgrow hlies'
      obtain ⟨m1, m2⟩ := hp.mid hbl hgrow
      have R : Hid (PenAt base (w1.setCell ⟨b, 0, none⟩ v') b v' (l ++ natB n)) := by
        rw [X.out, hq1.out]
        exact N1
      have T : Hid (Touch (Own b v) w (w1.setCell ⟨b, 0, none⟩ v')) := touch_own ht hlies N2
      have L : Hid (Lies w v v') := hlies.trans N3 ht.size
      obtain ⟨a', n', c', rfl⟩ := row_slice hown'
      clear N1 N2 N3 hown' hgrow hlies' hbl hlies ht hp hq1 hd X X2
      go_wp2
      go_end0
      exact ⟨rfl, _, R.out, T.out, L.out⟩
    · have hq1 : Hid (natB q = UInt8.ofNat (q % 128 + 128) :: natB (q / 128)) := natB_ge q hlt
      go_wp2_with (at_builtin; refine wpList_append_bytes _ rfl (.tmp 12) (.tmp 16) 24 rfl base 5 i0 Try.underlying24 hi hz0 hz1 hz2 v1 ld.length (bvals ld) rfl (hp.row.alloc _) ⟨wr.heap.size, 0, none⟩ 1 1 [.int .u8 (bits .or .u8 ((q : Int) % 256) 128)] rfl rfl (cell_one_new _ _ _) ?d2 ?d3 ?d4 ?d5 ?_)
      case d2 => intro u hu; simp at hu; subst hu; rfl
      case d3 => unfold maxLen; omega
      case d4 => omega
      case d5 => have := hp.room; simp; omega
      intro v' w1 hown' hgrow hlies'
      have hbl := (Below.refl wr.heap.size wr).alloc (Nat.le_refl _) (.cells #[.int .u8 (bits .or .u8 ((q : Int) % 256) 128)] 5)
      obtain ⟨N1, N2, N3⟩ := hp.next (m := [UInt8.ofNat (q % 128 + 128)]) hbl (by rw [bvals_one _ (by omega), ← or128]; exact hown') hgrow hlies'
      obtain ⟨m1, m2⟩ := hp.mid hbl hgrow
      have R : Hid (PenAt base (w1.setCell ⟨b, 0, none⟩ v') b v' (l ++ (d ++ [UInt8.ofNat (q % 128 + 128)]))) := by
        rw [X2.out]
        exact N1
      have D : Hid (natB n = (d ++ [UInt8.ofNat (q % 128 + 128)]) ++ natB (q / 128)) := by
        rw [Hid, hd.out, hq1.out]; simp
      have T : Hid (Touch (Own b v) w (w1.setCell ⟨b, 0, none⟩ v')) := touch_own ht hlies N2
      have L : Hid (Lies w v v') := hlies.trans N3 ht.size
      obtain ⟨a', n', c', rfl⟩ := row_slice hown'
      clear N1 N2 N3 hown' hgrow hlies' hbl hlies ht hp hq1 hd X X2
      go_wp2
      go_roundw
      case rel => exact ⟨q / 128, _, _, by go_num, by omega, D.out, R.out, T.out, L.out⟩
      case measure => simp [intOf]; omega

theorem penNat_int (base b : Nat) (v : Value) (l : List UInt8) (n : Int) (w : World) (h : PenAt base w b v l) (h0 : 0 ≤ n) (hn : n < 18446744073709551616) (hl : l.length ≤ 1000000000) :
    Calls Try.prog 21 #[.pointer (some ⟨b, 0, none⟩), .int .u64 n] w fun r w' => r = .returned (.tuple #[]) ∧ ∃ v', PenAt base w' b v' (l ++ natB n.toNat) ∧ Touch (Own b v) w w' ∧ Lies w v v' := by
  obtain ⟨m, rfl⟩ := Int.eq_ofNat_of_zero_le h0
  exact penNat_any base b v l m w h (by omega) hl

theorem zz_neg (n : Int) (h1 : -9223372036854775808 ≤ n) (h0 : n < 0) : bits .xor .u64 IntKind.u64.max (IntKind.u64.wrap (IntKind.u64.wrap n * 2)) = (zz n : Int) := by
  have e : IntKind.u64.wrap (IntKind.u64.wrap n * 2) = (((n * 2) % 18446744073709551616).toNat : Int) := by
    simp [IntKind.wrap, IntKind.bits, IntKind.signed]
    omega
  rw [e, u64_not _ (by omega)]
  unfold zz
  rw [if_neg (by omega)]
  omega

theorem penInt_nil (n : Int) (w : World) : Calls Try.prog 22 #[.pointer none, .int .i64 n] w fun e w' => e = .returned (.tuple #[]) ∧ w' = w := by
  go_enter Try.func22, Try.ntmps22
  go_wp2_with (go_at_call 21; refine (penNat_nil _ _).mono ?_; rintro e w' ⟨rfl, rfl⟩)
  all_goals
    first | go_end0 | refine bodyPost_ret (results_none rfl _ _ _) rfl ?_
    exact ⟨rfl, rfl⟩

set_option maxRecDepth 100000 in
set_option maxHeartbeats 400000 in
theorem penInt_any (base b : Nat) (v : Value) (l : List UInt8) (n : Int) (w : World) (hpen : PenAt base w b v l) (hn1 : -9223372036854775808 ≤ n) (hn2 : n ≤ 9223372036854775807) (hl : l.length ≤ 1000000000) :
    Calls Try.prog 22 #[.pointer (some ⟨b, 0, none⟩), .int .i64 n] w fun r w' => r = .returned (.tuple #[]) ∧ ∃ v', PenAt base w' b v' (l ++ natB (zz n)) ∧ Touch (Own b v) w w' ∧ Lies w v v' := by
  have hz := zz_lt n hn1 hn2
  by_cases h0 : n < 0
  · have e := zz_neg n hn1 h0
    have E : Hid (bits .xor .u64 IntKind.u64.max (IntKind.u64.wrap (IntKind.u64.wrap n * 2)) = (zz n : Int)) := e
    clear e
    go_enter Try.func22, Try.ntmps22
    go_wp2_with fail
    rw [E.out]
    refine (penNat_any base b v l (zz n) _ hpen hz hl).mono ?_
    rintro r w' ⟨rfl, H⟩
    go_wp2
    go_end0
    exact ⟨rfl, H⟩
  · have e : n * 2 = (zz n : Int) := by unfold zz; rw [if_pos (by omega)]; omega
    have E : Hid (n * 2 = (zz n : Int)) := e
    clear e
    go_enter Try.func22, Try.ntmps22
    go_wp2_with fail
    rw [E.out]
    refine (penNat_any base b v l (zz n) _ hpen hz hl).mono ?_
    rintro r w' ⟨rfl, H⟩
    go_wp2
    go_end0
    exact ⟨rfl, H⟩

theorem penText_nil (s : ByteArray) (w : World) : Calls Try.prog 25 #[.pointer none, .string s] w fun e w' => e = .returned (.tuple #[]) ∧ w' = w := by
  go_enter Try.func25, Try.ntmps25
  go_wp2
  refine bodyPost_ret (results_none rfl _ _ _) rfl ?_
  exact ⟨rfl, rfl⟩

theorem penBytes_nil (w : World) : Calls Try.prog 11 #[.pointer none] w fun e w' => e = .returned (.string ByteArray.empty) ∧ w' = w := by
  go_enter Try.func11, Try.ntmps11
  go_wp2
  go_ret
  exact ⟨rfl, rfl⟩

set_option maxRecDepth 100000 in
set_option maxHeartbeats 400000 in
theorem penText_any (base b : Nat) (v : Value) (l : List UInt8) (s : List UInt8) (w : World) (h : PenAt base w b v l) (hs : s.length ≤ 1000000) (hl : l.length ≤ 1000000000) :
    Calls Try.prog 25 #[.pointer (some ⟨b, 0, none⟩), .string (bstr s)] w fun r w' => r = .returned (.tuple #[]) ∧ ∃ v', PenAt base w' b v' (l ++ (natB s.length ++ s)) ∧ Touch (Own b v) w w' ∧ Lies w v v' := by
  obtain ⟨i0, hi, hz0, hz1, hz2⟩ := info_parts Try.info5
  have h10 := natB_ten s.length (by omega)
  have hsz : Hid ((bstr s).size = s.length) := bstr_size s
  have hsz2 : (bstr s).size ≤ 1000000 := by rw [hsz.out]; exact hs
  have hsc : Hid (Lib.strCells (bstr s) = bvals s) := by rw [Hid, Lib.strCells, bstr_list]; rfl
  go_enter Try.func25, Try.ntmps25
  go_wp2_with fail
  refine (penNat_int base b v l _ _ h (by omega) (by omega) hl).mono ?_
  rintro r w1 ⟨rfl, v1, hp, ht, hlies⟩
  rw [Int.toNat_natCast, hsz.out] at hp
  have X : Hid (l ++ (natB s.length ++ s) = (l ++ natB s.length) ++ s) := by rw [Hid, List.append_assoc]
  have hll : (l ++ natB s.length).length ≤ 1000000010 := by simp; omega
  generalize l ++ natB s.length = ld at *
  have hc := hp.cell
  have hf := hp.fz
  go_wp2_with (at_builtin; refine wpList_append_text _ rfl (.tmp 15) (.tmp 16) 24 9 rfl base 5 i0 Try.underlying24 Try.underlying9 hi hz0 hz1 hz2 v1 ld.length (bvals ld) rfl hp.row (bstr s) rfl ?c3 ?c4 ?c5 ?_)
  case c3 => unfold maxLen; omega
  case c4 => omega
  case c5 => exact hp.room
  intro v' w2 hown' hgrow hlies'
  rw [hsz.out, hsc.out] at hown'
  obtain ⟨N1, N2, N3⟩ := hp.next (m := s) (Below.refl _ _) hown' hgrow hlies'
  obtain ⟨m1, m2⟩ := hp.mid (Below.refl _ _) hgrow
  have R : Hid (PenAt base (w2.setCell ⟨b, 0, none⟩ v') b v' (l ++ (natB s.length ++ s))) := by rw [X.out]; exact N1
  have T : Hid (Touch (Own b v) w (w2.setCell ⟨b, 0, none⟩ v')) := touch_own ht hlies N2
  have L : Hid (Lies w v v') := hlies.trans N3 ht.size
  obtain ⟨a', n', c', rfl⟩ := row_slice hown'
  clear N1 N2 N3 hown' hgrow hlies' hlies ht hp X hsc hsz
  go_wp2
  go_end0
  exact ⟨rfl, _, R.out, T.out, L.out⟩

/-- A row of bytes as a text. -/
theorem row_text {w : World} {base : Nat} {v : Value} {l : List UInt8} (h : w.ownsRow base 5 1 v l.length (bvals l)) : (convert 24 9 v).run Try.prog w = .ok (.string (bstr l)) w := by
  have hrow := h
  rcases h.2 with ⟨rfl, h0⟩ | ⟨g, cap, cur, rfl, _, hg, _⟩
  · have : l = [] := List.eq_nil_of_length_eq_zero h0
    subst this
    exact run_convert_bytes_nil w 24 5 Try.underlying24 Try.underlying5 0 0 9 Try.underlying9
  · have := run_convert_bytes_arg w 24 5 Try.underlying24 Try.underlying5 g 0 l.length cap (l.map fun b => (b.toNat : Int)) (by simp) (fun i hi => by
      have := hrow.cellAt (g := g) (cap := cap) i (by omega)
      rw [Nat.zero_add, this]
      simp [bvals, List.getD, hi]) 9 Try.underlying9
    rw [this]
    congr 2
    apply WideShapes.bytes_inj
    rw [strOfNums_data, bstr_list, List.map_map]
    conv => rhs; rw [← List.map_id l]
    apply List.map_congr_left
    intro b _
    simp

theorem penBytes_any (base b : Nat) (v : Value) (l : List UInt8) (w : World) (h : PenAt base w b v l) :
    Calls Try.prog 11 #[.pointer (some ⟨b, 0, none⟩)] w fun r w' => r = .returned (.string (bstr l)) ∧ w' = w := by
  have hc := h.cell
  have hcv := row_text h.row
  go_enter Try.func11, Try.ntmps11
  go_wp2
  go_ret
  exact ⟨rfl, rfl⟩

end Go.Proofs.Ytneifmjaploflaa
