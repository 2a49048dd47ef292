/- The contracts of the library's HasPrefix, LastIndexByte and Count, and of lex's behind. -/
import Derived.Test.YtdankjkmgcclhaaDoorRow
import Derived.Lib.Bytealg
namespace Go.Proofs.YtdankjkmgcclhaaDoor
open Go.ChangeShapes Go.WideShapes Go.ChangeAt Go.RowKit
set_option linter.unusedVariables false

/-- The bytes of a list. -/
def bstr (l : List UInt8) : ByteArray := ⟨l.toArray⟩
theorem bstr_list (l : List UInt8) : (bstr l).data.toList = l := by simp [bstr]
theorem bstr_size (l : List UInt8) : (bstr l).size = l.length := by simp [bstr, ByteArray.size]
theorem bstr_of (s : ByteArray) : bstr s.data.toList = s := by cases s; simp [bstr]
theorem toList_bstr (l : List UInt8) : (bstr l).toList = l := by rw [ByteArray.toList_eq, bstr_list]
theorem bstr_inj {a b : List UInt8} (h : bstr a = bstr b) : a = b := by rw [← bstr_list a, h, bstr_list]
theorem extract_bstr (l : List UInt8) (k n : Nat) (hn : n = l.length) : (bstr l).extract k n = bstr (l.drop k) := by
  apply WideShapes.bytes_inj
  subst hn
  rw [Lib.extract_data, bstr_list, bstr_list, List.take_of_length_le (by simp)]
theorem extract0_bstr (l : List UInt8) (n : Nat) : (bstr l).extract 0 n = bstr (l.take n) := by
  apply WideShapes.bytes_inj
  rw [Lib.extract_data, bstr_list, bstr_list]
  simp
theorem get_bstr (l : List UInt8) (i : Nat) (h : i < l.length) (h' : i < (bstr l).size) : (bstr l)[i]'h' = l[i] := by
  have e : (bstr l).data.toList[i]'(by rw [bstr_list]; exact h) = (bstr l)[i]'h' := rfl
  rw [← e]
  simp only [bstr_list]
  rfl

/-- Whether letters begin with others. -/
def preB (p l : List UInt8) : Bool := l.take p.length == p

set_option maxRecDepth 100000 in
theorem hasPrefix_any (l p : List UInt8) (w : World) : Calls Tryd.prog 27 #[.string (bstr l), .string (bstr p)] w fun e w' => e = .returned (.bool (preB p l)) ∧ w' = w := by
  have s1 := bstr_size l
  have s2 := bstr_size p
  have C : Calls Tryd.prog 40 #[.string (bstr l), .string (bstr p)] w fun e w' => e = .returned (.bool (preB p l)) ∧ w' = w := by
    by_cases h : p.length ≤ l.length
    · have F : Hid ((((bstr l).extract 0 p.length).toList == (bstr p).toList) = preB p l) := hid (by rw [extract0_bstr, toList_bstr, toList_bstr]; rfl)
      go_enter Tryd.func40, Tryd.ntmps40
      go_wp2
      go_ret
      exact ⟨ret_bool F.out, rfl⟩
    · have F : Hid (preB p l = false) := hid (by
        cases hq : preB p l
        · rfl
        · simp only [preB, beq_iff_eq] at hq
          have := congrArg List.length hq
          simp at this
          omega)
      go_enter Tryd.func40, Tryd.ntmps40
      go_wp2
      go_ret
      exact ⟨ret_bool F.out.symm, rfl⟩
  go_enter Tryd.func27, Tryd.ntmps27
  go_wp2_with (go_at_call 40; refine C.mono ?_; rintro e w' ⟨rfl, rfl⟩)
  go_ret
  exact ⟨rfl, rfl⟩

/-- Where a byte stands last. -/
def LastOf (c : UInt8) (l : List UInt8) (v : Int) : Prop := (v = -1 ∧ c ∉ l) ∨ ∃ a b, l = a ++ c :: b ∧ v = a.length ∧ c ∉ b

set_option maxRecDepth 100000 in
set_option maxHeartbeats 400000 in
theorem lastIndex_in (l : List UInt8) (hl : l.length < 4611686018427387904) (w : World) : Calls Tryd.prog 41 #[.string (bstr l), .int .u8 10] w fun e w' => ∃ v, e = .returned (.int .i64 v) ∧ LastOf 10 l v ∧ w' = w := by
  have s1 := bstr_size l
  go_enter Tryd.func41, Tryd.ntmps41
  go_wp2_with fail
  go_loop [5] (fun i => ∃ k : Nat, i = .int .i64 ((k : Int) - 1) ∧ k ≤ l.length ∧ Hid (10 ∉ l.drop k)) (fun i => (intOf i + 1).toNat)
  case atStart => exact ⟨l.length, by first | rfl | (rw [s1]), Nat.le_refl _, hid (by simp)⟩
  case round =>
    obtain ⟨k, rfl, hk, hin⟩ := hrel
    cases k with
    | zero =>
      have F : Hid (LastOf 10 l (-1)) := hid (Or.inl ⟨rfl, by simpa using hin.out⟩)
      go_wp2
      go_ret
      exact ⟨-1, rfl, F.out, rfl⟩
    | succ k =>
      have hd : l.drop k = l[k]'(by omega) :: l.drop (k + 1) := List.drop_eq_getElem_cons (by omega)
      have hg := get_bstr l k (by omega) (by omega)
      have e1 : (((k + 1 : Nat) : Int) - 1) = (k : Int) := by omega
      rw [e1]
      by_cases hc : l[k]'(by omega) = 10
      · have F : Hid (LastOf 10 l k) := hid (Or.inr ⟨l.take k, l.drop (k + 1), by rw [← hc, ← hd, List.take_append_drop], by rw [List.length_take]; omega, hin.out⟩)
        have hb : (((l[k]'(by omega)).toNat : Int) == 10) = true := by rw [hc]; rfl
        go_wp2
        go_ret
        exact ⟨_, rfl, F.out, rfl⟩
      · have F : Hid (10 ∉ l.drop k) := hid (by rw [hd]; simp only [List.mem_cons, not_or]; exact ⟨fun h => hc h.symm, hin.out⟩)
        have hb : (((l[k]'(by omega)).toNat : Int) == 10) = false := by
          rw [beq_eq_false_iff_ne]
          intro h
          exact hc (UInt8.toNat_inj.1 (by have : (l[k]'(by omega)).toNat = 10 := by omega
                                          rw [this]; rfl))
        go_wp2
        refine ⟨⟨k, rfl, by omega, F⟩, ?_⟩
        simp only [intOf]
        omega

set_option maxRecDepth 100000 in
theorem lastIndex_any (l : List UInt8) (hl : l.length < 4611686018427387904) (w : World) : Calls Tryd.prog 28 #[.string (bstr l), .int .u8 10] w fun e w' => ∃ v, e = .returned (.int .i64 v) ∧ LastOf 10 l v ∧ w' = w := by
  go_enter Tryd.func28, Tryd.ntmps28
  go_wp2_with (go_at_call 41; refine (lastIndex_in l hl _).mono ?_; rintro e w' ⟨v, rfl, hv, rfl⟩)
  go_ret
  exact ⟨_, rfl, hv, rfl⟩

set_option maxRecDepth 100000 in
theorem count_any (l : List UInt8) (w : World) : Calls Tryd.prog 29 #[.string (bstr l), .string { data := #[10] }] w fun e w' => e = .returned (.int .i64 (l.count 10 : Nat)) ∧ w' = w := by
  have hc : Hid (Lib.countByte (bstr l).data.toList (({ data := #[10] } : ByteArray)[0]'(by decide)) = l.count 10) := hid (by rw [bstr_list]; rfl)
  go_enter Tryd.func29, Tryd.ntmps29
  go_wp2
  rw [run_callFunc_extern (e := Extern.BytealgCount.count) Tryd.func43 (by kernel_rfl) (by kernel_rfl) (by kernel_rfl) (by kernel_rfl), Lib.run_countString]
  simp only [Result.andThen]
  rw [Oper.upon_value]
  go_wp2
  go_ret
  exact ⟨ret_i64 (by rw [hc.out]), rfl⟩

/-- Places: behind a byte, behind bytes. -/
def adv1 (p : Nat × Nat) (c : UInt8) : Nat × Nat := if c = 10 then (p.1 + 1, 1) else (p.1, p.2 + 1)
def adv (p : Nat × Nat) (l : List UInt8) : Nat × Nat := l.foldl adv1 p

theorem adv_nil (p : Nat × Nat) : adv p [] = p := rfl
theorem adv_cons (p : Nat × Nat) (c : UInt8) (l : List UInt8) : adv p (c :: l) = adv (adv1 p c) l := rfl
theorem adv_app (p : Nat × Nat) (a b : List UInt8) : adv p (a ++ b) = adv (adv p a) b := List.foldl_append ..
theorem adv_plain (p : Nat × Nat) (l : List UInt8) (h : 10 ∉ l) : adv p l = (p.1, p.2 + l.length) := by
  induction l generalizing p with
  | nil => simp [adv]
  | cons c l ih =>
    simp only [List.mem_cons, not_or] at h
    rw [adv_cons, ih _ h.2, adv1, if_neg (fun e => h.1 e.symm)]
    simp
    omega
theorem adv_fst (p : Nat × Nat) (l : List UInt8) : (adv p l).1 = p.1 + l.count 10 := by
  induction l generalizing p with
  | nil => simp [adv]
  | cons c l ih =>
    rw [adv_cons, ih, adv1]
    by_cases h : c = 10
    · subst h; simp; omega
    · simp [h]
theorem adv_last (p : Nat × Nat) (a b : List UInt8) (h : 10 ∉ b) : (adv p (a ++ 10 :: b)).2 = b.length + 1 := by
  rw [adv_app, adv_cons, adv_plain _ _ h, adv1, if_pos rfl]
  simp
  omega
theorem adv_le (p : Nat × Nat) (l : List UInt8) : (adv p l).1 ≤ p.1 + l.length ∧ (adv p l).2 ≤ p.2 + l.length + 1 := by
  induction l generalizing p with
  | nil => simp [adv]
  | cons c l ih =>
    rw [adv_cons]
    have := ih (adv1 p c)
    have h1 : (adv1 p c).1 ≤ p.1 + 1 ∧ (adv1 p c).2 ≤ p.2 + 1 := by
      unfold adv1
      split <;> simp
    simp only [List.length_cons]
    omega

theorem ret2_i64 {a b c d : Int} (h : a = c) (h' : b = d) : Ending.returned (.tuple #[.int .i64 a, .int .i64 b]) = .returned (.tuple #[.int .i64 c, .int .i64 d]) := by rw [h, h']

set_option maxRecDepth 100000 in
set_option maxHeartbeats 400000 in
theorem behind_any (p : Nat × Nat) (l : List UInt8) (hp : p.1 + p.2 + l.length < 1152921504606846976) (w : World) :
    Calls Tryd.prog 18 #[.int .i64 p.1, .int .i64 p.2, .string (bstr l)] w fun e w' => e = .returned (.tuple #[.int .i64 (adv p l).1, .int .i64 (adv p l).2]) ∧ Below w.heap.size w w' := by
  have s1 := bstr_size l
  have hcl : l.count 10 ≤ l.length := List.count_le_length
  have C := fun W => lastIndex_any l (by omega) W
  have D := fun W => count_any l W
  have E : Hid (((adv p l).1 : Int) = ((p.1 : Int) + (l.count 10 : Nat))) := hid (by rw [adv_fst]; omega)
  have G : Hid (∀ v : Int, LastOf 10 l v → v < 0 → adv p l = (p.1, p.2 + l.length)) := hid (fun v hv h0 => by
    rcases hv with ⟨rfl, hv⟩ | ⟨a, b, rfl, rfl, hv⟩
    · exact adv_plain _ _ hv
    · omega)
  have H : Hid (∀ v : Int, LastOf 10 l v → 0 ≤ v → ((adv p l).2 : Int) = l.length - v ∧ v < l.length) := hid (fun v hv h0 => by
    rcases hv with ⟨rfl, hv⟩ | ⟨a, b, rfl, rfl, hv⟩
    · omega
    · rw [adv_last _ _ _ hv]
      simp only [List.length_append, List.length_cons]
      omega)
  obtain ⟨p1, p2⟩ := p
  simp only at hp E G ⊢
  generalize adv (p1, p2) l = q at E G H
  generalize l.count 10 = n at D E hcl
  go_enter Tryd.func18, Tryd.ntmps18
  go_wp2_with fail
  refine (C _).mono ?_
  rintro e w' ⟨v, rfl, hv0, rfl⟩
  have hv := hid hv0
  clear hv0
  by_cases h0 : v < 0
  · have h1 := G.out v hv.out h0
    subst h1
    go_wp2
    go_ret2
    exact ⟨ret2_i64 rfl (by simp), Below.refl _ _⟩
  · obtain ⟨h1, h2⟩ := H.out v hv.out (by omega)
    have h1 : Hid _ := h1
    go_wp2_with (go_at_call 29; refine (D _).mono ?_; rintro e w' ⟨rfl, rfl⟩)
    go_ret2
    exact ⟨ret2_i64 (by rw [E.out]) (by rw [h1.out]), Below.refl _ _⟩
end Go.Proofs.YtdankjkmgcclhaaDoor
