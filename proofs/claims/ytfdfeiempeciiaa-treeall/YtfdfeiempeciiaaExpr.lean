/- The contract of the maker's expr. -/
import Derived.Test.YtfdfeiempeciiaaJoinA
namespace Go.Proofs.Ytfdfeiempeciiaa
open Go.ChangeShapes Go.WideShapes Go.ChangeAt Go.RowKit
set_option linter.unusedVariables false

/-- An expression that was made. -/
def ExOut (w w' : World) (r : Value) (b : Ex) : Prop := ∃ e : Ex, r = e.val ∧ e.ok w' (fun g => w.heap.size ≤ g) ∧ e.bare = b ∧ e.tr.toList ≠ [122]

theorem Ex.leaf_ok {e : Ex} (hk : e.kids = []) (hv : e.kv = .slice none 0 0) (hn : I64 e.op ∧ I64 e.bin ∧ U64 e.n ∧ I64 e.tk) (w : World) (F : Nat → Prop) : e.ok w F := (Ex.ok_iff _ _ _).2 ⟨hn, by rw [hk, hv]; exact RowAt.nil _ _ _, by simp [hk]⟩
theorem Ex.leaf_bare {e : Ex} (hk : e.kids = []) (hv : e.kv = .slice none 0 0) : e.bare = e := by
  rw [Ex.bare_eq]
  cases e
  simp at hk hv
  simp [hk, hv]
theorem nmV_ne (k : Nat) : (nmV k).toList ≠ [122] := by
  rw [ByteArray.toList_eq]
  simp only [nmV]
  have : ∀ k, k < 8 → [97, 98, 120, 121, 103, 82, 81, 102].getD k 97 ≠ (122 : UInt8) := by decide
  intro e
  simp at e
  by_cases h : k < 8
  · exact this k h (by simpa using e)
  · rw [List.getElem?_eq_none (by simp; omega)] at e
    revert e
    decide
theorem empty_ne : ({ data := #[] } : ByteArray).toList ≠ [122] := by
  rw [ByteArray.toList_eq]
  simp
theorem leaf_one {e : Ex} (hv : e.kv = .slice none 0 0) : ∀ v ∈ e.cells, v.oneCell' = true := by
  intro v hv'
  simp only [Ex.cells, List.mem_cons, List.not_mem_nil, or_false] at hv'
  rcases hv' with rfl | rfl | rfl | rfl | rfl | rfl | rfl | rfl | rfl
  all_goals first | rfl | rw [hv]; rfl
theorem splice_all (e z : Ex) : splice z.cells 0 e.cells = e.cells := by simp [Ex.cells, splice]

set_option maxRecDepth 100000 in
set_option maxHeartbeats 4000000 in
theorem expr_lit (w : World) (M : Nat) (v : Value) (N : List Int) (i l d : Nat) (hd : d ≤ 3) (h : Mk w M v N i l) (ho : pk N 9 i = 0) :
    Calls Try.prog 54 #[.pointer (some ⟨M, 0, none⟩), .int .i64 d] w fun e w' => ∃ r, e = .returned r ∧ ExOut w w' r ({ Ex.zero with op := 1, n := (pk N 200 (nx N i) : Int) }, nx N (nx N i)).1 ∧ Made w M v N l ({ Ex.zero with op := 1, n := (pk N 200 (nx N i) : Int) }, nx N (nx N i)).2 w' := by
  have hlt := h.lt
  have C := fun o => pick_any (w.alloc o) M v N i l 9 (h.alloc o) (by omega) (by omega)
  rw [ho] at C
  have V := hid (VarAt.new w Ex.zero.cells 46)
  clear h
  by_cases hd0 : d = 0
  all_goals
    try subst hd0
    go_enter Try.func54, Try.ntmps54
    go_wp2_with fail
    refine (C _).mono ?_
    rintro e w1 ⟨rfl, hm⟩
    replace V := hid (V.out.touch hm.1 (by omega))
    replace hm := hid hm.alloc
    clear C
    have hk1 := pk_lt N 200 (nx N i) (by omega)
    have C := fun W hm => pick_any W M v N (nx N i) l 200 hm (by omega) (by omega)
    go_wp2_with fail
    refine (C _ hm.out.2).mono ?_
    rintro e w1 ⟨rfl, hm2⟩
    replace V := hid (V.out.touch hm2.1 (by omega))
    replace hm := hid (made_trans hm.out hm2)
    clear C hm2
    go_wp2_with (refine wl_store_part 46 _ _ rfl rfl w.heap.size 0 rfl ({ Ex.zero with op := 1, n := (pk N 200 (nx N i) : Int) } : Ex).cells rfl agg46 (leaf_one rfl) _ _ V.out (by simp [Ex.len]) ?_; intro w3 V3 t3; replace V3 := hid V3; replace t3 := hid t3)
    rw [splice_all] at V3
    refine bodyPost_ret (results_cell_row rfl _ _ w.heap.size _ _ _ _ rfl V3.out Try.underlying46 rfl (by kernel_rfl)) rfl ?_
    exact ⟨_, rfl, ⟨{ Ex.zero with op := 1, n := (pk N 200 (nx N i) : Int) }, rfl, Ex.leaf_ok rfl rfl (by simp [Ex.zero, I64, U64]; try omega) _ _, Ex.leaf_bare rfl rfl, empty_ne⟩, hm.out.res t3.out (Nat.le_refl _) hlt⟩

set_option maxRecDepth 100000 in
set_option maxHeartbeats 4000000 in
theorem expr_inp (w : World) (M : Nat) (v : Value) (N : List Int) (i l d : Nat) (hd : d ≤ 3) (h : Mk w M v N i l) (ho : pk N 9 i = 3) :
    Calls Try.prog 54 #[.pointer (some ⟨M, 0, none⟩), .int .i64 d] w fun e w' => ∃ r, e = .returned r ∧ ExOut w w' r ({ Ex.zero with op := 4, n := (pk N 16 (nx N i) : Int) }, nx N (nx N i)).1 ∧ Made w M v N l ({ Ex.zero with op := 4, n := (pk N 16 (nx N i) : Int) }, nx N (nx N i)).2 w' := by
  have hlt := h.lt
  have C := fun o => pick_any (w.alloc o) M v N i l 9 (h.alloc o) (by omega) (by omega)
  rw [ho] at C
  have V := hid (VarAt.new w Ex.zero.cells 46)
  clear h
  by_cases hd0 : d = 0
  all_goals
    try subst hd0
    go_enter Try.func54, Try.ntmps54
    go_wp2_with fail
    refine (C _).mono ?_
    rintro e w1 ⟨rfl, hm⟩
    replace V := hid (V.out.touch hm.1 (by omega))
    replace hm := hid hm.alloc
    clear C
    have hk1 := pk_lt N 16 (nx N i) (by omega)
    have C := fun W hm => pick_any W M v N (nx N i) l 16 hm (by omega) (by omega)
    go_wp2_with fail
    refine (C _ hm.out.2).mono ?_
    rintro e w1 ⟨rfl, hm2⟩
    replace V := hid (V.out.touch hm2.1 (by omega))
    replace hm := hid (made_trans hm.out hm2)
    clear C hm2
    go_wp2_with (refine wl_store_part 46 _ _ rfl rfl w.heap.size 0 rfl ({ Ex.zero with op := 4, n := (pk N 16 (nx N i) : Int) } : Ex).cells rfl agg46 (leaf_one rfl) _ _ V.out (by simp [Ex.len]) ?_; intro w3 V3 t3; replace V3 := hid V3; replace t3 := hid t3)
    rw [splice_all] at V3
    refine bodyPost_ret (results_cell_row rfl _ _ w.heap.size _ _ _ _ rfl V3.out Try.underlying46 rfl (by kernel_rfl)) rfl ?_
    exact ⟨_, rfl, ⟨{ Ex.zero with op := 4, n := (pk N 16 (nx N i) : Int) }, rfl, Ex.leaf_ok rfl rfl (by simp [Ex.zero, I64, U64]; try omega) _ _, Ex.leaf_bare rfl rfl, empty_ne⟩, hm.out.res t3.out (Nat.le_refl _) hlt⟩

set_option maxRecDepth 100000 in
set_option maxHeartbeats 4000000 in
theorem expr_var (w : World) (M : Nat) (v : Value) (N : List Int) (i l d : Nat) (hd : d ≤ 3) (h : Mk w M v N i l) (ho : pk N 9 i = 4) :
    Calls Try.prog 54 #[.pointer (some ⟨M, 0, none⟩), .int .i64 d] w fun e w' => ∃ r, e = .returned r ∧ ExOut w w' r ({ Ex.zero with op := 5, nm := nmV (pk N 8 (nx N i)) }, nx N (nx N i)).1 ∧ Made w M v N l ({ Ex.zero with op := 5, nm := nmV (pk N 8 (nx N i)) }, nx N (nx N i)).2 w' := by
  have hlt := h.lt
  have C := fun o => pick_any (w.alloc o) M v N i l 9 (h.alloc o) (by omega) (by omega)
  rw [ho] at C
  have V := hid (VarAt.new w Ex.zero.cells 46)
  clear h
  by_cases hd0 : d = 0
  all_goals
    try subst hd0
    go_enter Try.func54, Try.ntmps54
    go_wp2_with fail
    refine (C _).mono ?_
    rintro e w1 ⟨rfl, hm⟩
    replace V := hid (V.out.touch hm.1 (by omega))
    replace hm := hid hm.alloc
    clear C
    have C := fun W hm => name_any W M v N (nx N i) l hm
    have hs := nmV_ne (pk N 8 (nx N i))
    go_wp2_with fail
    refine (C _ hm.out.2).mono ?_
    rintro e w1 ⟨rfl, hm2⟩
    replace V := hid (V.out.touch hm2.1 (by omega))
    replace hm := hid (made_trans hm.out hm2)
    clear C hm2
    go_wp2_with (refine wl_store_part 46 _ _ rfl rfl w.heap.size 0 rfl ({ Ex.zero with op := 5, nm := nmV (pk N 8 (nx N i)) } : Ex).cells rfl agg46 (leaf_one rfl) _ _ V.out (by simp [Ex.len]) ?_; intro w3 V3 t3; replace V3 := hid V3; replace t3 := hid t3)
    rw [splice_all] at V3
    refine bodyPost_ret (results_cell_row rfl _ _ w.heap.size _ _ _ _ rfl V3.out Try.underlying46 rfl (by kernel_rfl)) rfl ?_
    exact ⟨_, rfl, ⟨{ Ex.zero with op := 5, nm := nmV (pk N 8 (nx N i)) }, rfl, Ex.leaf_ok rfl rfl (by simp [Ex.zero, I64, U64]; try omega) _ _, Ex.leaf_bare rfl rfl, empty_ne⟩, hm.out.res t3.out (Nat.le_refl _) hlt⟩

set_option maxRecDepth 100000 in
set_option maxHeartbeats 4000000 in
theorem expr_var0 (w : World) (M : Nat) (v : Value) (N : List Int) (i l d : Nat) (hd : d ≤ 3) (h : Mk w M v N i l) (ho : 5 ≤ pk N 9 i) (hd0 : d = 0) :
    Calls Try.prog 54 #[.pointer (some ⟨M, 0, none⟩), .int .i64 (0 : Nat)] w fun e w' => ∃ r, e = .returned r ∧ ExOut w w' r ({ Ex.zero with op := 5, nm := nmV (pk N 8 (nx N i)) }, nx N (nx N i)).1 ∧ Made w M v N l ({ Ex.zero with op := 5, nm := nmV (pk N 8 (nx N i)) }, nx N (nx N i)).2 w' := by
  have hlt := h.lt
  have C := fun o => pick_any (w.alloc o) M v N i l 9 (h.alloc o) (by omega) (by omega)
  subst hd0
  have hk0 := pk_lt N 9 i (by omega)
  generalize pk N 9 i = k0 at *
  have V := hid (VarAt.new w Ex.zero.cells 46)
  clear h
  go_enter Try.func54, Try.ntmps54
  go_wp2_with fail
  refine (C _).mono ?_
  rintro e w1 ⟨rfl, hm⟩
  replace V := hid (V.out.touch hm.1 (by omega))
  replace hm := hid hm.alloc
  clear C
  have C := fun W hm => name_any W M v N (nx N i) l hm
  have hs := nmV_ne (pk N 8 (nx N i))
  go_wp2_with fail
  refine (C _ hm.out.2).mono ?_
  rintro e w1 ⟨rfl, hm2⟩
  replace V := hid (V.out.touch hm2.1 (by omega))
  replace hm := hid (made_trans hm.out hm2)
  clear C hm2
  go_wp2_with (refine wl_store_part 46 _ _ rfl rfl w.heap.size 0 rfl ({ Ex.zero with op := 5, nm := nmV (pk N 8 (nx N i)) } : Ex).cells rfl agg46 (leaf_one rfl) _ _ V.out (by simp [Ex.len]) ?_; intro w3 V3 t3; replace V3 := hid V3; replace t3 := hid t3)
  rw [splice_all] at V3
  refine bodyPost_ret (results_cell_row rfl _ _ w.heap.size _ _ _ _ rfl V3.out Try.underlying46 rfl (by kernel_rfl)) rfl ?_
  exact ⟨_, rfl, ⟨{ Ex.zero with op := 5, nm := nmV (pk N 8 (nx N i)) }, rfl, Ex.leaf_ok rfl rfl (by simp [Ex.zero, I64, U64]; try omega) _ _, Ex.leaf_bare rfl rfl, empty_ne⟩, hm.out.res t3.out (Nat.le_refl _) hlt⟩

set_option maxRecDepth 100000 in
set_option maxHeartbeats 4000000 in
theorem expr_nob0 (w : World) (M : Nat) (v : Value) (N : List Int) (i l d : Nat) (hd : d ≤ 3) (h : Mk w M v N i l) (ho : pk N 9 i = 2) (ho2 : pk N 4 (nx N i) = 0) :
    Calls Try.prog 54 #[.pointer (some ⟨M, 0, none⟩), .int .i64 d] w fun e w' => ∃ r, e = .returned r ∧ ExOut w w' r ({ Ex.zero with op := 3, tk := 3 }, nx N (nx N i)).1 ∧ Made w M v N l ({ Ex.zero with op := 3, tk := 3 }, nx N (nx N i)).2 w' := by
  have hlt := h.lt
  have C := fun o => pick_any (w.alloc o) M v N i l 9 (h.alloc o) (by omega) (by omega)
  rw [ho] at C
  have V := hid (VarAt.new w Ex.zero.cells 46)
  clear h
  by_cases hd0 : d = 0
  all_goals
    try subst hd0
    go_enter Try.func54, Try.ntmps54
    go_wp2_with fail
    refine (C _).mono ?_
    rintro e w1 ⟨rfl, hm⟩
    replace V := hid (V.out.touch hm.1 (by omega))
    replace hm := hid hm.alloc
    clear C
    have hk1 := pk_lt N 4 (nx N i) (by omega)
    have ho3 := ho2
    have C := fun W hm => pick_any W M v N (nx N i) l 4 hm (by omega) (by omega)
    rw [ho2] at C
    go_wp2_with fail
    refine (C _ hm.out.2).mono ?_
    rintro e w1 ⟨rfl, hm2⟩
    replace V := hid (V.out.touch hm2.1 (by omega))
    replace hm := hid (made_trans hm.out hm2)
    clear C hm2
    go_wp2_with (refine wl_store_part 46 _ _ rfl rfl w.heap.size 0 rfl ({ Ex.zero with op := 3, tk := 3 } : Ex).cells rfl agg46 (leaf_one rfl) _ _ V.out (by simp [Ex.len]) ?_; intro w3 V3 t3; replace V3 := hid V3; replace t3 := hid t3)
    rw [splice_all] at V3
    refine bodyPost_ret (results_cell_row rfl _ _ w.heap.size _ _ _ _ rfl V3.out Try.underlying46 rfl (by kernel_rfl)) rfl ?_
    exact ⟨_, rfl, ⟨{ Ex.zero with op := 3, tk := 3 }, rfl, Ex.leaf_ok rfl rfl (by simp [Ex.zero, I64, U64]; try omega) _ _, Ex.leaf_bare rfl rfl, empty_ne⟩, hm.out.res t3.out (Nat.le_refl _) hlt⟩

set_option maxRecDepth 100000 in
set_option maxHeartbeats 4000000 in
theorem expr_nob1 (w : World) (M : Nat) (v : Value) (N : List Int) (i l d : Nat) (hd : d ≤ 3) (h : Mk w M v N i l) (ho : pk N 9 i = 2) (ho2 : pk N 4 (nx N i) ≠ 0) :
    Calls Try.prog 54 #[.pointer (some ⟨M, 0, none⟩), .int .i64 d] w fun e w' => ∃ r, e = .returned r ∧ ExOut w w' r ({ Ex.zero with op := 3, tk := 4, tr := nmV (pk N 8 (nx N (nx N i))) }, nx N (nx N (nx N i))).1 ∧ Made w M v N l ({ Ex.zero with op := 3, tk := 4, tr := nmV (pk N 8 (nx N (nx N i))) }, nx N (nx N (nx N i))).2 w' := by
  have hlt := h.lt
  have C := fun o => pick_any (w.alloc o) M v N i l 9 (h.alloc o) (by omega) (by omega)
  rw [ho] at C
  have V := hid (VarAt.new w Ex.zero.cells 46)
  clear h
  by_cases hd0 : d = 0
  all_goals
    try subst hd0
    go_enter Try.func54, Try.ntmps54
    go_wp2_with fail
    refine (C _).mono ?_
    rintro e w1 ⟨rfl, hm⟩
    replace V := hid (V.out.touch hm.1 (by omega))
    replace hm := hid hm.alloc
    clear C
    have hk1 := pk_lt N 4 (nx N i) (by omega)
    have C := fun W hm => pick_any W M v N (nx N i) l 4 hm (by omega) (by omega)
    go_wp2_with fail
    refine (C _ hm.out.2).mono ?_
    rintro e w1 ⟨rfl, hm2⟩
    replace V := hid (V.out.touch hm2.1 (by omega))
    replace hm := hid (made_trans hm.out hm2)
    clear C hm2
    have C := fun W hm => name_any W M v N (nx N (nx N i)) l hm
    have hs := nmV_ne (pk N 8 (nx N (nx N i)))
    go_wp2_with fail
    refine (C _ hm.out.2).mono ?_
    rintro e w1 ⟨rfl, hm2⟩
    replace V := hid (V.out.touch hm2.1 (by omega))
    replace hm := hid (made_trans hm.out hm2)
    clear C hm2
    go_wp2_with (refine wl_store_part 46 _ _ rfl rfl w.heap.size 0 rfl ({ Ex.zero with op := 3, tk := 4, tr := nmV (pk N 8 (nx N (nx N i))) } : Ex).cells rfl agg46 (leaf_one rfl) _ _ V.out (by simp [Ex.len]) ?_; intro w3 V3 t3; replace V3 := hid V3; replace t3 := hid t3)
    rw [splice_all] at V3
    refine bodyPost_ret (results_cell_row rfl _ _ w.heap.size _ _ _ _ rfl V3.out Try.underlying46 rfl (by kernel_rfl)) rfl ?_
    exact ⟨_, rfl, ⟨{ Ex.zero with op := 3, tk := 4, tr := nmV (pk N 8 (nx N (nx N i))) }, rfl, Ex.leaf_ok rfl rfl (by simp [Ex.zero, I64, U64]; try omega) _ _, Ex.leaf_bare rfl rfl, nmV_ne _⟩, hm.out.res t3.out (Nat.le_refl _) hlt⟩
end Go.Proofs.Ytfdfeiempeciiaa
