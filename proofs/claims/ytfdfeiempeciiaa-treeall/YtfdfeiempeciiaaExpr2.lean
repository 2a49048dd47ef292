/- The contract of the maker's expr, of those with kids; all of it. -/
import Derived.Test.YtfdfeiempeciiaaExpr
import Derived.Test.YtfdfeiempeciiaaMade
namespace Go.Proofs.Ytfdfeiempeciiaa
open Go.ChangeShapes Go.WideShapes Go.ChangeAt Go.RowKit
set_option linter.unusedVariables false

set_option maxRecDepth 100000 in
set_option maxHeartbeats 4000000 in
theorem expr_real (w : World) (M : Nat) (v : Value) (N : List Int) (i l d : Nat) (hd : d ≤ 3) (h : Mk w M v N i l) (ho : pk N 9 i = 1) :
    Calls Try.prog 54 #[.pointer (some ⟨M, 0, none⟩), .int .i64 d] w fun e w' => ∃ r, e = .returned r ∧ ExOut w w' r ({ Ex.zero with op := 2, n := realV (pk N 4 (nx N i)) }, nx N (nx N i)).1 ∧ Made w M v N l ({ Ex.zero with op := 2, n := realV (pk N 4 (nx N i)) }, nx N (nx N i)).2 w' := by
  have hlt := h.lt
  have C := fun o => pick_any (w.alloc o) M v N i l 9 (h.alloc o) (by omega) (by omega)
  rw [ho] at C
  have V := hid (VarAt.new w Ex.zero.cells 46)
  have hk := pk_lt N 4 (nx N i) (by omega)
  have hr : Hid (0 ≤ realV (pk N 4 (nx N i)) ∧ realV (pk N 4 (nx N i)) < 18446744073709551616) := hid (by
    generalize pk N 4 (nx N i) = k at hk
    have : k = 0 ∨ k = 1 ∨ k = 2 ∨ k = 3 := by omega
    rcases this with rfl | rfl | rfl | rfl <;> simp [realV])
  have hc : Hid (∀ w1 w' : World, M < w1.heap.size → Made (w1.alloc (.cells #[.int .u64 0, .int .u64 9223372036854775808, .int .u64 9221120237041090560, .int .u64 4607182418800017408] 41)) M v N l (nx N (nx N i)) w' →
      w'.cell? ⟨w1.heap.size, pk N 4 (nx N i), none⟩ = some (.int .u64 (realV (pk N 4 (nx N i))))) := hid fun w1 w' hl hm => by
    rw [hm.1.at (by simp) (by omega), cell_of_row _ _ _ _ _ _ (heap_alloc_new w1 _)]
    generalize pk N 4 (nx N i) = k at hk
    have : k = 0 ∨ k = 1 ∨ k = 2 ∨ k = 3 := by omega
    rcases this with rfl | rfl | rfl | rfl <;> rfl
  clear h
  by_cases hd0 : d = 0
  all_goals
    try subst hd0
    go_enter Try.func54, Try.ntmps54
    go_wp2_with fail
    refine (C _).mono ?_
    rintro e w1 ⟨rfl, hm⟩
    replace V := hid (V.out.touch hm.1 (by omega))
    replace hm := hid hm.alloc
    clear C
    have C := fun o => pick_any (w1.alloc o) M v N (nx N i) l 4 (hm.out.2.alloc o) (by omega) (by omega)
    go_wp2_with fail
    refine (C _).mono ?_
    rintro e w2 ⟨rfl, hm2⟩
    have c := hc.out w1 w2 hm.out.2.lt hm2
    replace V := hid ((V.out.kept ((Below.refl _ _).alloc (Nat.le_refl _) _)).touch hm2.1 (by omega))
    replace hm := hid (made_trans hm.out hm2.alloc)
    clear C hm2
    go_wp2_with (refine wl_store_part 46 _ _ rfl rfl w.heap.size 0 rfl ({ Ex.zero with op := 2, n := realV (pk N 4 (nx N i)) } : Ex).cells rfl agg46 (leaf_one rfl) _ _ V.out (by simp [Ex.len]) ?_; intro w3 V3 t3; replace V3 := hid V3; replace t3 := hid t3)
    rw [splice_all] at V3
    refine bodyPost_ret (results_cell_row rfl _ _ w.heap.size _ _ _ _ rfl V3.out Try.underlying46 rfl (by kernel_rfl)) rfl ?_
    exact ⟨_, rfl, ⟨{ Ex.zero with op := 2, n := realV (pk N 4 (nx N i)) }, rfl, Ex.leaf_ok rfl rfl (by have := hr.out; simp [Ex.zero, I64, U64]; omega) _ _, Ex.leaf_bare rfl rfl, empty_ne⟩, hm.out.res t3.out (Nat.le_refl _) hlt⟩

set_option maxRecDepth 100000 in
set_option maxHeartbeats 4000000 in
theorem expr_one (w : World) (M : Nat) (v : Value) (N : List Int) (i l d : Nat) (hd : d ≤ 3) (h : Mk w M v N i l) (ho1 : 5 ≤ pk N 9 i) (ho2 : pk N 9 i ≤ 7) (i' : Nat) (b : Ex)
    (D : ∀ W, Mk W M v N (nx N i) l → Calls Try.prog 54 #[.pointer (some ⟨M, 0, none⟩), .int .i64 d] W fun e w' => ∃ r, e = .returned r ∧ ExOut W w' r b ∧ Made W M v N l i' w') :
    Calls Try.prog 54 #[.pointer (some ⟨M, 0, none⟩), .int .i64 ((d + 1 : Nat) : Int)] w fun e w' => ∃ r, e = .returned r ∧ ExOut w w' r { Ex.zero with op := (1 + pk N 9 i : Nat), kids := [b] } ∧ Made w M v N l i' w' := by
  have hlt := h.lt
  have C := fun o => pick_any (w.alloc o) M v N i l 9 (h.alloc o) (by omega) (by omega)
  have V := hid (VarAt.new w Ex.zero.cells 46)
  generalize pk N 9 i = k at *
  clear h
  have hd1 : ((d + 1 : Nat) : Int) = (d : Int) + 1 := by omega
  rw [hd1]
  clear hd1
  go_enter Try.func54, Try.ntmps54
  go_wp2_with fail
  refine (C _).mono ?_
  rintro e w1 ⟨rfl, hm⟩
  replace V := hid (V.out.touch hm.1 (by omega))
  replace hm := hid hm.alloc
  clear C
  go_wp2_with fail
  refine (D _ hm.out.2).mono ?_
  rintro e w2 ⟨r, rfl, ⟨x, rfl, hx, hb, hz⟩, hm2⟩
  have z1 := hm.out.1.size
  have zV := V.out.lt
  replace V := hid (V.out.touch hm2.1 (by omega))
  replace hm := hid (made_trans hm.out hm2)
  replace hx := hid (hx.mono (G := fun g => w.heap.size < g) (fun g h1 h2 => by omega))
  have z2 := hm2.1.size
  clear D hm2
  unfold Ex.val
  go_wp2_with (first
    | refine wl_slice1 44 46 _ 9 104 _ rfl rfl Try.underlying44 info46 (by omega) (by omega) x.cells rfl rfl ?_
    | (refine wl_store_part 46 _ _ rfl rfl w.heap.size 0 rfl ({ Ex.zero with op := 1 + (k : Int), kids := [x], kv := .slice (some ⟨w2.heap.size, 0, none⟩) 1 1 } : Ex).cells rfl agg46 (by
        intro u hu
        simp only [Ex.cells, List.mem_cons, List.not_mem_nil, or_false] at hu
        rcases hu with rfl | rfl | rfl | rfl | rfl | rfl | rfl | rfl | rfl
        all_goals rfl) _ _ (V.out.kept ((Below.refl _ _).alloc (Nat.le_refl _) _)) (by simp [Ex.len]) ?_; intro w3 V3 t3; replace V3 := hid V3; replace t3 := hid t3))
  rw [splice_all] at V3
  refine bodyPost_ret (results_cell_row rfl _ _ w.heap.size _ _ _ _ rfl V3.out Try.underlying46 rfl (by kernel_rfl)) rfl ?_
  refine ⟨_, rfl, ⟨{ Ex.zero with op := 1 + (k : Int), kids := [x], kv := .slice (some ⟨w2.heap.size, 0, none⟩) 1 1 }, rfl, ?_, ?_, empty_ne⟩, ?_⟩
  · have hx3 : x.ok w3 (fun g => w.heap.size < g) := (hx.out.kept ((Below.refl _ _).alloc (Nat.le_refl _) _)).keep (fun g hg hl => t3.out.block g hl (by omega))
    refine (Ex.ok_iff _ _ _).2 ⟨by simp [Ex.zero, I64, U64]; omega, ?_, fun y hy => ?_⟩
    · have := (RowAt.made w2 x.cells 46 (fun g => w.heap.size < g) (by omega) 9 rfl).keep (w' := w3) (fun g hg hl => t3.out.block g hl (by omega))
      simpa using this.mono (G := fun g => w.heap.size ≤ g) (fun g h1 h2 => by omega)
    · simp at hy
      subst hy
      exact hx3.mono (fun g h1 h2 => by omega)
  · rw [Ex.bare_eq]
    simp [hb, Ex.zero]
  · refine Made.res (R := w.heap.size) ⟨hm.out.1.alloc _, hm.out.2.alloc _⟩ t3.out (Nat.le_refl _) hlt

set_option maxRecDepth 100000 in
set_option maxHeartbeats 4000000 in
theorem expr_two (w : World) (M : Nat) (v : Value) (N : List Int) (i l d : Nat) (hd : d ≤ 3) (h : Mk w M v N i l) (ho : pk N 9 i = 8) (i' i'' : Nat) (b b' : Ex)
    (D : ∀ W, Mk W M v N (nx N (nx N i)) l → Calls Try.prog 54 #[.pointer (some ⟨M, 0, none⟩), .int .i64 d] W fun e w' => ∃ r, e = .returned r ∧ ExOut W w' r b ∧ Made W M v N l i' w')
    (D' : ∀ W, Mk W M v N i' l → Calls Try.prog 54 #[.pointer (some ⟨M, 0, none⟩), .int .i64 d] W fun e w' => ∃ r, e = .returned r ∧ ExOut W w' r b' ∧ Made W M v N l i'' w') :
    Calls Try.prog 54 #[.pointer (some ⟨M, 0, none⟩), .int .i64 ((d + 1 : Nat) : Int)] w fun e w' => ∃ r, e = .returned r ∧ ExOut w w' r { Ex.zero with op := 9, bin := pk N 9 (nx N i), kids := [b, b'] } ∧ Made w M v N l i'' w' := by
  have hlt := h.lt
  have C := fun o => pick_any (w.alloc o) M v N i l 9 (h.alloc o) (by omega) (by omega)
  rw [ho] at C
  have C2 := fun W hm => pick_any W M v N (nx N i) l 9 hm (by omega) (by omega)
  have hk := pk_lt N 9 (nx N i) (by omega)
  have V := hid (VarAt.new w Ex.zero.cells 46)
  generalize pk N 9 (nx N i) = k at *
  clear h ho
  have hd1 : ((d + 1 : Nat) : Int) = (d : Int) + 1 := by omega
  rw [hd1]
  clear hd1
  go_enter Try.func54, Try.ntmps54
  go_wp2_with fail
  refine (C _).mono ?_
  rintro e w1 ⟨rfl, hm⟩
  replace V := hid (V.out.touch hm.1 (by omega))
  replace hm := hid hm.alloc
  clear C
  go_wp2_with fail
  refine (C2 _ hm.out.2).mono ?_
  rintro e w2 ⟨rfl, hm2⟩
  replace V := hid (V.out.touch hm2.1 (by omega))
  replace hm := hid (made_trans hm.out hm2)
  have zV := V.out.lt
  clear C2 hm2
  go_wp2_with fail
  refine (D _ hm.out.2).mono ?_
  rintro e w3 ⟨r, rfl, ⟨x, rfl, hx, hb, hz⟩, hm2⟩
  replace V := hid (V.out.touch hm2.1 (by omega))
  replace hm := hid (made_trans hm.out hm2)
  replace hx := hid (hx.mono (G := fun g => w.heap.size < g) (fun g h1 h2 => by omega))
  have z2 := hm2.1.size
  clear D hm2
  go_wp2_with fail
  refine (D' _ hm.out.2).mono ?_
  rintro e w4 ⟨r, rfl, ⟨y, rfl, hy, hb', hz'⟩, hm2⟩
  replace V := hid (V.out.touch hm2.1 (by omega))
  replace hm := hid (made_trans hm.out hm2)
  replace hx := hid (hx.out.keep (fun g hg hl => hm2.1.block g hl (by omega)))
  replace hy := hid (hy.mono (G := fun g => w.heap.size < g) (fun g h1 h2 => by omega))
  have z3 := hm2.1.size
  clear D' hm2
  obtain ⟨x1, x2, x3, x4, x5, x6, x7, x8, x9, x10⟩ := x
  obtain ⟨y1, y2, y3, y4, y5, y6, y7, y8, y9, y10⟩ := y
  simp only [Ex.val, Ex.cells]
  go_wp2_with (refine wl_store_part 46 _ _ rfl rfl w.heap.size 0 rfl ({ Ex.zero with op := 9, bin := (k : Int), kids := [⟨x1, x2, x3, x4, x5, x6, x7, x8, x9, x10⟩, ⟨y1, y2, y3, y4, y5, y6, y7, y8, y9, y10⟩], kv := .slice (some ⟨w4.heap.size, 0, none⟩) 2 2 } : Ex).cells rfl agg46 (by
        intro u hu
        simp only [Ex.cells, List.mem_cons, List.not_mem_nil, or_false] at hu
        rcases hu with rfl | rfl | rfl | rfl | rfl | rfl | rfl | rfl | rfl
        all_goals rfl) _ _ (V.out.kept ((Below.refl _ _).alloc (Nat.le_refl _) _)) (by simp [Ex.len]) ?_; intro w5 V3 t3; replace V3 := hid V3; replace t3 := hid t3)
  rw [splice_all] at V3
  refine bodyPost_ret (results_cell_row rfl _ _ w.heap.size _ _ _ _ rfl V3.out Try.underlying46 rfl (by kernel_rfl)) rfl ?_
  refine ⟨_, rfl, ⟨{ Ex.zero with op := 9, bin := (k : Int), kids := [⟨x1, x2, x3, x4, x5, x6, x7, x8, x9, x10⟩, ⟨y1, y2, y3, y4, y5, y6, y7, y8, y9, y10⟩], kv := .slice (some ⟨w4.heap.size, 0, none⟩) 2 2 }, rfl, ?_, ?_, empty_ne⟩, ?_⟩
  · have hx3 := (hx.out.kept ((Below.refl _ _).alloc (Nat.le_refl _) _)).keep (fun g hg hl => t3.out.block g hl (by omega))
    have hy3 := (hy.out.kept ((Below.refl _ _).alloc (Nat.le_refl _) _)).keep (fun g hg hl => t3.out.block g hl (by omega))
    refine (Ex.ok_iff _ _ _).2 ⟨by simp [Ex.zero, I64, U64]; omega, ?_, fun z hz => ?_⟩
    · have := (RowAt.mades w4 ((⟨x1, x2, x3, x4, x5, x6, x7, x8, x9, x10⟩ : Ex).cells ++ (⟨y1, y2, y3, y4, y5, y6, y7, y8, y9, y10⟩ : Ex).cells) 46 (fun g => w.heap.size < g) (by omega) 9 2 (by omega) rfl).keep (w' := w5) (fun g hg hl => t3.out.block g hl (by omega))
      simpa using this.mono (G := fun g => w.heap.size ≤ g) (fun g h1 h2 => by omega)
    · simp at hz
      rcases hz with rfl | rfl
      · exact hx3.mono (fun g h1 h2 => by omega)
      · exact hy3.mono (fun g h1 h2 => by omega)
  · rw [Ex.bare_eq]
    simp [hb, hb', Ex.zero]
  · exact Made.res (R := w.heap.size) ⟨hm.out.1.alloc _, hm.out.2.alloc _⟩ t3.out (Nat.le_refl _) hlt

theorem expr_any (M : Nat) (v : Value) (N : List Int) (l : Nat) (d : Nat) : ∀ (w : World) (i : Nat), d ≤ 3 → Mk w M v N i l →
    Calls Try.prog 54 #[.pointer (some ⟨M, 0, none⟩), .int .i64 d] w fun e w' => ∃ r, e = .returned r ∧ ExOut w w' r (exprM N d i).1 ∧ Made w M v N l (exprM N d i).2 w' := by
  have leaf : ∀ (d : Nat) (w : World) (i : Nat), d ≤ 3 → Mk w M v N i l → pk N 9 i ≤ 4 → Calls Try.prog 54 #[.pointer (some ⟨M, 0, none⟩), .int .i64 d] w fun e w' => ∃ r, e = .returned r ∧ ExOut w w' r (leafM N (1 + pk N 9 i) (nx N i)).1 ∧ Made w M v N l (leafM N (1 + pk N 9 i) (nx N i)).2 w' := by
    intro d w i hd h hk
    have : pk N 9 i = 0 ∨ pk N 9 i = 1 ∨ pk N 9 i = 2 ∨ pk N 9 i = 3 ∨ pk N 9 i = 4 := by omega
    rcases this with e | e | e | e | e
    · rw [show leafM N (1 + pk N 9 i) (nx N i) = ({ Ex.zero with op := 1, n := (pk N 200 (nx N i) : Int) }, nx N (nx N i)) by simp [leafM, e]]
      exact expr_lit w M v N i l d hd h e
    · rw [show leafM N (1 + pk N 9 i) (nx N i) = ({ Ex.zero with op := 2, n := realV (pk N 4 (nx N i)) }, nx N (nx N i)) by simp [leafM, e]]
      exact expr_real w M v N i l d hd h e
    · by_cases e2 : pk N 4 (nx N i) = 0
      · rw [show leafM N (1 + pk N 9 i) (nx N i) = ({ Ex.zero with op := 3, tk := 3 }, nx N (nx N i)) by simp [leafM, e, e2]]
        exact expr_nob0 w M v N i l d hd h e e2
      · rw [show leafM N (1 + pk N 9 i) (nx N i) = ({ Ex.zero with op := 3, tk := 4, tr := nmV (pk N 8 (nx N (nx N i))) }, nx N (nx N (nx N i))) by simp [leafM, e, e2]]
        exact expr_nob1 w M v N i l d hd h e e2
    · rw [show leafM N (1 + pk N 9 i) (nx N i) = ({ Ex.zero with op := 4, n := (pk N 16 (nx N i) : Int) }, nx N (nx N i)) by simp [leafM, e]]
      exact expr_inp w M v N i l d hd h e
    · rw [show leafM N (1 + pk N 9 i) (nx N i) = ({ Ex.zero with op := 5, nm := nmV (pk N 8 (nx N i)) }, nx N (nx N i)) by simp [leafM, e]]
      exact expr_var w M v N i l d hd h e
  induction d with
  | zero =>
    intro w i hd h
    by_cases hk : pk N 9 i ≤ 4
    · rw [show exprM N 0 i = leafM N (1 + pk N 9 i) (nx N i) by rw [exprM, if_neg (by omega)]]
      exact leaf 0 w i hd h hk
    · rw [show exprM N 0 i = ({ Ex.zero with op := 5, nm := nmV (pk N 8 (nx N i)) }, nx N (nx N i)) by rw [exprM, if_pos (by omega)]; simp [leafM]]
      exact expr_var0 w M v N i l 0 hd h (by omega) rfl
  | succ d ih =>
    intro w i hd h
    have hlt := pk_lt N 9 i (by omega)
    by_cases hk : pk N 9 i ≤ 4
    · rw [show exprM N (d + 1) i = leafM N (1 + pk N 9 i) (nx N i) by rw [exprM, if_pos (by omega)]]
      exact leaf (d + 1) w i hd h hk
    · by_cases h8 : pk N 9 i = 8
      · rw [show exprM N (d + 1) i = ({ Ex.zero with op := 9, bin := pk N 9 (nx N i), kids := [(exprM N d (nx N (nx N i))).1, (exprM N d (exprM N d (nx N (nx N i))).2).1] }, (exprM N d (exprM N d (nx N (nx N i))).2).2) by rw [exprM, if_neg (by omega), if_pos (by omega)]]
        exact expr_two w M v N i l d (by omega) h h8 _ _ _ _ (fun W hW => ih W _ (by omega) hW) (fun W hW => ih W _ (by omega) hW)
      · rw [show exprM N (d + 1) i = ({ Ex.zero with op := (1 + pk N 9 i : Nat), kids := [(exprM N d (nx N i)).1] }, (exprM N d (nx N i)).2) by rw [exprM, if_neg (by omega), if_neg (by omega)]]
        exact expr_one w M v N i l d (by omega) h (by omega) (by omega) _ _ (fun W hW => ih W _ (by omega) hW)
end Go.Proofs.Ytfdfeiempeciiaa
