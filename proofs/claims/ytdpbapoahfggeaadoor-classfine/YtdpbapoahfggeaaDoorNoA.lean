/- Contracts of noneWrong: nothing of a row is wrong. -/
import Derived.Test.YtdpbapoahfggeaaDoorSm1
namespace Go.Proofs.YtdpbapoahfggeaaDoor
open Go.ChangeShapes Go.WideShapes Go.ChangeAt Go.RowKit
set_option linter.unusedVariables false
set_option linter.unusedSimpArgs false

set_option maxRecDepth 100000 in
set_option maxHeartbeats 1000000 in
theorem none29_26 (v : Value) (l : List Loc) (P : Nat → Loc → Prop) (pv : Value) (w : World) (hl : Locs w v l) (hn : l.length ≤ 1000000)
    (C : ∀ (W : World) (j : Nat) (x : Loc), Below w.heap.size w W → l[j]? = some x → x.okW W → Calls Tryd.prog 45 #[.int .i64 j, .agg #[.int .i64 x.kind, .int .i64 x.rc, .bool x.once], pv] W (AnsN (P j x) W)) :
    Calls Tryd.prog 48 #[v, .func (.func 45) #[] #[pv]] w (Ans (∀ (i : Nat) (x : Loc), l[i]? = some x → P i x) w) := by
  have HL := hid hl
  obtain ⟨a, cap, rfl, hr⟩ := hl.at
  have HR := hid hr
  replace C := hid C
  clear hr hl
  generalize hln : l.length = n at *
  replace hln := hid hln
  go_enter Tryd.func48, Tryd.ntmps48
  go_wp2_with fail
  go_loopw [9] (fun t wr => ∃ j : Nat, t = .int .i64 j ∧ j ≤ n ∧ Hid (∀ (i : Nat) (x : Loc), i < j → l[i]? = some x → P i x) ∧ Hid (Below w.heap.size w wr)) (fun t _ => n - (intOf t).toNat)
  case atStart => exact ⟨0, rfl, by omega, hid (fun i x h => by omega), Below.refl _ _⟩
  case round =>
    obtain ⟨j, rfl, hj, E, B⟩ := hrel
    by_cases hjn : j < n
    · obtain ⟨x, b, off, hx, rfl, hb, hr, ok⟩ := HR.out j hjn
      replace hr := fun k u hk => (B.out.cell (p := ⟨b, off + j * 3 + k, none⟩) hb).trans (hr k u hk)
      have c0 := hr 0 _ rfl; have c1 := hr 1 _ rfl; have c2 := hr 2 _ rfl
      simp only [Nat.add_zero, Nat.mul_one] at c0
      have K2 := hid (B.out.alloc B.out.size (.cells #[.int .i64 x.kind, .int .i64 x.rc, .bool x.once] 60))
      replace C := hid (fun W h => C.out W j x h hx)
      have ok2 := hid (fun W (h : Below w.heap.size w W) => Loc.kept ok h)
      have hx' := hid hx
      clear hr HR HL ok B hx
      go_wp2_with (go_at_call 45; refine Calls.mono (C.out _ K2.out (ok2.out _ K2.out)) ?_; rintro e w' ⟨q, rfl, hq, hb'⟩; replace hq := hid hq; cases q)
      · go_roundw
        case rel =>
          refine ⟨j + 1, by go_num, by omega, hid (fun i y hi hy => ?_), bover K2.out hb'⟩
          by_cases hij : i < j
          · exact E.out i y hij hy
          · obtain rfl : i = j := by omega
            rw [hx'.out] at hy
            cases hy
            simpa using hq.out
        case measure => simp [intOf]; omega
      · go_ret
        have h1 : ¬ P j x := by simpa using hq.out
        exact exNo (fun h => h1 (h j x hx'.out)) (bover K2.out hb')
    · clear HR C HL
      go_wp2
      go_ret
      refine exYes (fun i x hx => E.out i x ?_ hx) B.out
      have := (List.getElem?_eq_some_iff.1 hx).1
      have := hln.out
      omega

set_option maxRecDepth 100000 in
set_option maxHeartbeats 1000000 in
theorem none29_28 (v : Value) (l : List Loc) (P : Nat → Loc → Prop) (pv : Value) (w : World) (hl : Locs w v l) (hn : l.length ≤ 1000000)
    (C : ∀ (W : World) (j : Nat) (x : Loc), Below w.heap.size w W → l[j]? = some x → x.okW W → Calls Tryd.prog 47 #[.int .i64 j, .agg #[.int .i64 x.kind, .int .i64 x.rc, .bool x.once], pv] W (AnsN (P j x) W)) :
    Calls Tryd.prog 48 #[v, .func (.func 47) #[] #[pv]] w (Ans (∀ (i : Nat) (x : Loc), l[i]? = some x → P i x) w) := by
  have HL := hid hl
  obtain ⟨a, cap, rfl, hr⟩ := hl.at
  have HR := hid hr
  replace C := hid C
  clear hr hl
  generalize hln : l.length = n at *
  replace hln := hid hln
  go_enter Tryd.func48, Tryd.ntmps48
  go_wp2_with fail
  go_loopw [9] (fun t wr => ∃ j : Nat, t = .int .i64 j ∧ j ≤ n ∧ Hid (∀ (i : Nat) (x : Loc), i < j → l[i]? = some x → P i x) ∧ Hid (Below w.heap.size w wr)) (fun t _ => n - (intOf t).toNat)
  case atStart => exact ⟨0, rfl, by omega, hid (fun i x h => by omega), Below.refl _ _⟩
  case round =>
    obtain ⟨j, rfl, hj, E, B⟩ := hrel
    by_cases hjn : j < n
    · obtain ⟨x, b, off, hx, rfl, hb, hr, ok⟩ := HR.out j hjn
      replace hr := fun k u hk => (B.out.cell (p := ⟨b, off + j * 3 + k, none⟩) hb).trans (hr k u hk)
      have c0 := hr 0 _ rfl; have c1 := hr 1 _ rfl; have c2 := hr 2 _ rfl
      simp only [Nat.add_zero, Nat.mul_one] at c0
      have K2 := hid (B.out.alloc B.out.size (.cells #[.int .i64 x.kind, .int .i64 x.rc, .bool x.once] 60))
      replace C := hid (fun W h => C.out W j x h hx)
      have ok2 := hid (fun W (h : Below w.heap.size w W) => Loc.kept ok h)
      have hx' := hid hx
      clear hr HR HL ok B hx
      go_wp2_with (go_at_call 47; refine Calls.mono (C.out _ K2.out (ok2.out _ K2.out)) ?_; rintro e w' ⟨q, rfl, hq, hb'⟩; replace hq := hid hq; cases q)
      · go_roundw
        case rel =>
          refine ⟨j + 1, by go_num, by omega, hid (fun i y hi hy => ?_), bover K2.out hb'⟩
          by_cases hij : i < j
          · exact E.out i y hij hy
          · obtain rfl : i = j := by omega
            rw [hx'.out] at hy
            cases hy
            simpa using hq.out
        case measure => simp [intOf]; omega
      · go_ret
        have h1 : ¬ P j x := by simpa using hq.out
        exact exNo (fun h => h1 (h j x hx'.out)) (bover K2.out hb')
    · clear HR C HL
      go_wp2
      go_ret
      refine exYes (fun i x hx => E.out i x ?_ hx) B.out
      have := (List.getElem?_eq_some_iff.1 hx).1
      have := hln.out
      omega

set_option maxRecDepth 100000 in
set_option maxHeartbeats 1000000 in
theorem none24_25 (v : Value) (l : List Rl) (P : Nat → Rl → Prop) (w : World) (hl : Rls w v l) (hn : l.length ≤ 1000000)
    (C : ∀ (W : World) (j : Nat) (x : Rl), Below w.heap.size w W → l[j]? = some x → x.okW W → Calls Tryd.prog 44 #[.int .i64 j, x.fv] W (AnsN (P j x) W)) :
    Calls Tryd.prog 43 #[v, .func (.func 44) #[] #[]] w (Ans (∀ (i : Nat) (x : Rl), l[i]? = some x → P i x) w) := by
  have HL := hid hl
  obtain ⟨a, cap, rfl, hr⟩ := hl.at
  have HR := hid hr
  replace C := hid C
  clear hr hl
  generalize hln : l.length = n at *
  replace hln := hid hln
  go_enter Tryd.func43, Tryd.ntmps43
  go_wp2_with fail
  go_loopw [9] (fun t wr => ∃ j : Nat, t = .int .i64 j ∧ j ≤ n ∧ Hid (∀ (i : Nat) (x : Rl), i < j → l[i]? = some x → P i x) ∧ Hid (Below w.heap.size w wr)) (fun t _ => n - (intOf t).toNat)
  case atStart => exact ⟨0, rfl, by omega, hid (fun i x h => by omega), Below.refl _ _⟩
  case round =>
    obtain ⟨j, rfl, hj, E, B⟩ := hrel
    by_cases hjn : j < n
    · obtain ⟨x, b, off, hx, rfl, hb, hr, ok⟩ := HR.out j hjn
      replace hr := fun k u hk => (B.out.cell (p := ⟨b, off + j * 1 + k, none⟩) hb).trans (hr k u hk)
      have c0 := hr 0 _ rfl
      simp only [Nat.add_zero, Nat.mul_one] at c0
      have K2 := hid (B.out)
      replace C := hid (fun W h => C.out W j x h hx)
      have ok2 := hid (fun W (h : Below w.heap.size w W) => Rl.kept ok h)
      have hx' := hid hx
      clear hr HR HL ok B hx
      go_wp2_with (go_at_call 44; refine Calls.mono (C.out _ K2.out (ok2.out _ K2.out)) ?_; rintro e w' ⟨q, rfl, hq, hb'⟩; replace hq := hid hq; cases q)
      · go_roundw
        case rel =>
          refine ⟨j + 1, by go_num, by omega, hid (fun i y hi hy => ?_), bover K2.out hb'⟩
          by_cases hij : i < j
          · exact E.out i y hij hy
          · obtain rfl : i = j := by omega
            rw [hx'.out] at hy
            cases hy
            simpa using hq.out
        case measure => simp [intOf]; omega
      · go_ret
        have h1 : ¬ P j x := by simpa using hq.out
        exact exNo (fun h => h1 (h j x hx'.out)) (bover K2.out hb')
    · clear HR C HL
      go_wp2
      go_ret
      refine exYes (fun i x hx => E.out i x ?_ hx) B.out
      have := (List.getElem?_eq_some_iff.1 hx).1
      have := hln.out
      omega

set_option maxRecDepth 100000 in
set_option maxHeartbeats 1000000 in
theorem none24_30 (v : Value) (l : List Rl) (P : Nat → Rl → Prop) (pv : Value) (w : World) (hl : Rls w v l) (hn : l.length ≤ 1000000)
    (C : ∀ (W : World) (j : Nat) (x : Rl), Below w.heap.size w W → l[j]? = some x → x.okW W → Calls Tryd.prog 49 #[.int .i64 j, x.fv, pv] W (AnsN (P j x) W)) :
    Calls Tryd.prog 43 #[v, .func (.func 49) #[] #[pv]] w (Ans (∀ (i : Nat) (x : Rl), l[i]? = some x → P i x) w) := by
  have HL := hid hl
  obtain ⟨a, cap, rfl, hr⟩ := hl.at
  have HR := hid hr
  replace C := hid C
  clear hr hl
  generalize hln : l.length = n at *
  replace hln := hid hln
  go_enter Tryd.func43, Tryd.ntmps43
  go_wp2_with fail
  go_loopw [9] (fun t wr => ∃ j : Nat, t = .int .i64 j ∧ j ≤ n ∧ Hid (∀ (i : Nat) (x : Rl), i < j → l[i]? = some x → P i x) ∧ Hid (Below w.heap.size w wr)) (fun t _ => n - (intOf t).toNat)
  case atStart => exact ⟨0, rfl, by omega, hid (fun i x h => by omega), Below.refl _ _⟩
  case round =>
    obtain ⟨j, rfl, hj, E, B⟩ := hrel
    by_cases hjn : j < n
    · obtain ⟨x, b, off, hx, rfl, hb, hr, ok⟩ := HR.out j hjn
      replace hr := fun k u hk => (B.out.cell (p := ⟨b, off + j * 1 + k, none⟩) hb).trans (hr k u hk)
      have c0 := hr 0 _ rfl
      simp only [Nat.add_zero, Nat.mul_one] at c0
      have K2 := hid (B.out)
      replace C := hid (fun W h => C.out W j x h hx)
      have ok2 := hid (fun W (h : Below w.heap.size w W) => Rl.kept ok h)
      have hx' := hid hx
      clear hr HR HL ok B hx
      go_wp2_with (go_at_call 49; refine Calls.mono (C.out _ K2.out (ok2.out _ K2.out)) ?_; rintro e w' ⟨q, rfl, hq, hb'⟩; replace hq := hid hq; cases q)
      · go_roundw
        case rel =>
          refine ⟨j + 1, by go_num, by omega, hid (fun i y hi hy => ?_), bover K2.out hb'⟩
          by_cases hij : i < j
          · exact E.out i y hij hy
          · obtain rfl : i = j := by omega
            rw [hx'.out] at hy
            cases hy
            simpa using hq.out
        case measure => simp [intOf]; omega
      · go_ret
        have h1 : ¬ P j x := by simpa using hq.out
        exact exNo (fun h => h1 (h j x hx'.out)) (bover K2.out hb')
    · clear HR C HL
      go_wp2
      go_ret
      refine exYes (fun i x hx => E.out i x ?_ hx) B.out
      have := (List.getElem?_eq_some_iff.1 hx).1
      have := hln.out
      omega

end Go.Proofs.YtdpbapoahfggeaaDoor
