/- NoA, NoB, Sm2, Sm3 -/
import Derived.Test.YtdpbapoahfggeaaDoorM02
/- Contracts of noneWrong: nothing of a row is wrong. -/
namespace Go.Proofs.YtdpbapoahfggeaaDoor
open Go.ChangeShapes Go.WideShapes Go.ChangeAt Go.RowKit
set_option linter.unusedVariables false
set_option linter.unusedSimpArgs false

set_option maxRecDepth 100000 in
set_option maxHeartbeats 1000000 in
theorem none29_26 (v : Value) (l : List Loc) (P : Nat → Loc → Prop) (pv : Value) (w : World) (hl : Locs w v l) (hn : l.length ≤ 1000000)
    (C : ∀ (W : World) (j : Nat) (x : Loc), Below w.heap.size w W → l[j]? = some x → x.okW W → Calls Tryd.prog 45 #[.int .i64 j, .agg #[.int .i64 x.kind, .int .i64 x.rc, .bool x.once], pv] W (AnsN (P j x) W)) :
    Calls Tryd.prog 48 #[v, .func (.func 45) #[] #[pv]] w (Ans (∀ (i : Nat) (x : Loc), l[i]? = some x → P i x) w) := by
  have HL := hid hl
  obtain ⟨a, cap, rfl, hr⟩ := hl.at
  have HR := hid hr
  replace C := hid C
  clear hr hl
  generalize hln : l.length = n at *
  replace hln := hid hln
  go_enter Tryd.func48, Tryd.ntmps48
  go_wp2_with fail
  go_loopw [9] (fun t wr => ∃ j : Nat, t = .int .i64 j ∧ j ≤ n ∧ Hid (∀ (i : Nat) (x : Loc), i < j → l[i]? = some x → P i x) ∧ Hid (Below w.heap.size w wr)) (fun t _ => n - (intOf t).toNat)
  case atStart => exact ⟨0, rfl, by omega, hid (fun i x h => by omega), Below.refl _ _⟩
  case round =>
    obtain ⟨j, rfl, hj, E, B⟩ := hrel
    by_cases hjn : j < n
    · obtain ⟨x, b, off, hx, rfl, hb, hr, ok⟩ := HR.out j hjn
      replace hr := fun k u hk => (B.out.cell (p := ⟨b, off + j * 3 + k, none⟩) hb).trans (hr k u hk)
      have c0 := hr 0 _ rfl; have c1 := hr 1 _ rfl; have c2 := hr 2 _ rfl
      simp only [Nat.add_zero, Nat.mul_one] at c0
      have K2 := hid (B.out.alloc B.out.size (.cells #[.int .i64 x.kind, .int .i64 x.rc, .bool x.once] 60))
      replace C := hid (fun W h => C.out W j x h hx)
      have ok2 := hid (fun W (h : Below w.heap.size w W) => Loc.kept ok h)
      have hx' := hid hx
      clear hr HR HL ok B hx
      go_wp2_with (go_at_call 45; refine Calls.mono (C.out _ K2.out (ok2.out _ K2.out)) ?_; rintro e w' ⟨q, rfl, hq, hb'⟩; replace hq := hid hq; cases q)
      · go_roundw
        case rel =>
          refine ⟨j + 1, by go_num, by omega, hid (fun i y hi hy => ?_), bover K2.out hb'⟩
          by_cases hij : i < j
          · exact E.out i y hij hy
          · obtain rfl : i = j := by omega
            rw [hx'.out] at hy
            cases hy
            simpa using hq.out
        case measure => simp [intOf]; omega
      · go_ret
        have h1 : ¬ P j x := by simpa using hq.out
        exact exNo (fun h => h1 (h j x hx'.out)) (bover K2.out hb')
    · clear HR C HL
      go_wp2
      go_ret
      refine exYes (fun i x hx => E.out i x ?_ hx) B.out
      have := (List.getElem?_eq_some_iff.1 hx).1
      have := hln.out
      omega

set_option maxRecDepth 100000 in
set_option maxHeartbeats 1000000 in
theorem none29_28 (v : Value) (l : List Loc) (P : Nat → Loc → Prop) (pv : Value) (w : World) (hl : Locs w v l) (hn : l.length ≤ 1000000)
    (C : ∀ (W : World) (j : Nat) (x : Loc), Below w.heap.size w W → l[j]? = some x → x.okW W → Calls Tryd.prog 47 #[.int .i64 j, .agg #[.int .i64 x.kind, .int .i64 x.rc, .bool x.once], pv] W (AnsN (P j x) W)) :
    Calls Tryd.prog 48 #[v, .func (.func 47) #[] #[pv]] w (Ans (∀ (i : Nat) (x : Loc), l[i]? = some x → P i x) w) := by
  have HL := hid hl
  obtain ⟨a, cap, rfl, hr⟩ := hl.at
  have HR := hid hr
  replace C := hid C
  clear hr hl
  generalize hln : l.length = n at *
  replace hln := hid hln
  go_enter Tryd.func48, Tryd.ntmps48
  go_wp2_with fail
  go_loopw [9] (fun t wr => ∃ j : Nat, t = .int .i64 j ∧ j ≤ n ∧ Hid (∀ (i : Nat) (x : Loc), i < j → l[i]? = some x → P i x) ∧ Hid (Below w.heap.size w wr)) (fun t _ => n - (intOf t).toNat)
  case atStart => exact ⟨0, rfl, by omega, hid (fun i x h => by omega), Below.refl _ _⟩
  case round =>
    obtain ⟨j, rfl, hj, E, B⟩ := hrel
    by_cases hjn : j < n
    · obtain ⟨x, b, off, hx, rfl, hb, hr, ok⟩ := HR.out j hjn
      replace hr := fun k u hk => (B.out.cell (p := ⟨b, off + j * 3 + k, none⟩) hb).trans (hr k u hk)
      have c0 := hr 0 _ rfl; have c1 := hr 1 _ rfl; have c2 := hr 2 _ rfl
      simp only [Nat.add_zero, Nat.mul_one] at c0
      have K2 := hid (B.out.alloc B.out.size (.cells #[.int .i64 x.kind, .int .i64 x.rc, .bool x.once] 60))
      replace C := hid (fun W h => C.out W j x h hx)
      have ok2 := hid (fun W (h : Below w.heap.size w W) => Loc.kept ok h)
      have hx' := hid hx
      clear hr HR HL ok B hx
      go_wp2_with (go_at_call 47; refine Calls.mono (C.out _ K2.out (ok2.out _ K2.out)) ?_; rintro e w' ⟨q, rfl, hq, hb'⟩; replace hq := hid hq; cases q)
      · go_roundw
        case rel =>
          refine ⟨j + 1, by go_num, by omega, hid (fun i y hi hy => ?_), bover K2.out hb'⟩
          by_cases hij : i < j
          · exact E.out i y hij hy
          · obtain rfl : i = j := by omega
            rw [hx'.out] at hy
            cases hy
            simpa using hq.out
        case measure => simp [intOf]; omega
      · go_ret
        have h1 : ¬ P j x := by simpa using hq.out
        exact exNo (fun h => h1 (h j x hx'.out)) (bover K2.out hb')
    · clear HR C HL
      go_wp2
      go_ret
      refine exYes (fun i x hx => E.out i x ?_ hx) B.out
      have := (List.getElem?_eq_some_iff.1 hx).1
      have := hln.out
      omega

set_option maxRecDepth 100000 in
set_option maxHeartbeats 1000000 in
theorem none24_25 (v : Value) (l : List Rl) (P : Nat → Rl → Prop) (w : World) (hl : Rls w v l) (hn : l.length ≤ 1000000)
    (C : ∀ (W : World) (j : Nat) (x : Rl), Below w.heap.size w W → l[j]? = some x → x.okW W → Calls Tryd.prog 44 #[.int .i64 j, x.fv] W (AnsN (P j x) W)) :
    Calls Tryd.prog 43 #[v, .func (.func 44) #[] #[]] w (Ans (∀ (i : Nat) (x : Rl), l[i]? = some x → P i x) w) := by
  have HL := hid hl
  obtain ⟨a, cap, rfl, hr⟩ := hl.at
  have HR := hid hr
  replace C := hid C
  clear hr hl
  generalize hln : l.length = n at *
  replace hln := hid hln
  go_enter Tryd.func43, Tryd.ntmps43
  go_wp2_with fail
  go_loopw [9] (fun t wr => ∃ j : Nat, t = .int .i64 j ∧ j ≤ n ∧ Hid (∀ (i : Nat) (x : Rl), i < j → l[i]? = some x → P i x) ∧ Hid (Below w.heap.size w wr)) (fun t _ => n - (intOf t).toNat)
  case atStart => exact ⟨0, rfl, by omega, hid (fun i x h => by omega), Below.refl _ _⟩
  case round =>
    obtain ⟨j, rfl, hj, E, B⟩ := hrel
    by_cases hjn : j < n
    · obtain ⟨x, b, off, hx, rfl, hb, hr, ok⟩ := HR.out j hjn
      replace hr := fun k u hk => (B.out.cell (p := ⟨b, off + j * 1 + k, none⟩) hb).trans (hr k u hk)
      have c0 := hr 0 _ rfl
      simp only [Nat.add_zero, Nat.mul_one] at c0
      have K2 := hid (B.out)
      replace C := hid (fun W h => C.out W j x h hx)
      have ok2 := hid (fun W (h : Below w.heap.size w W) => Rl.kept ok h)
      have hx' := hid hx
      clear hr HR HL ok B hx
      go_wp2_with (go_at_call 44; refine Calls.mono (C.out _ K2.out (ok2.out _ K2.out)) ?_; rintro e w' ⟨q, rfl, hq, hb'⟩; replace hq := hid hq; cases q)
      · go_roundw
        case rel =>
          refine ⟨j + 1, by go_num, by omega, hid (fun i y hi hy => ?_), bover K2.out hb'⟩
          by_cases hij : i < j
          · exact E.out i y hij hy
          · obtain rfl : i = j := by omega
            rw [hx'.out] at hy
            cases hy
            simpa using hq.out
        case measure => simp [intOf]; omega
      · go_ret
        have h1 : ¬ P j x := by simpa using hq.out
        exact exNo (fun h => h1 (h j x hx'.out)) (bover K2.out hb')
    · clear HR C HL
      go_wp2
      go_ret
      refine exYes (fun i x hx => E.out i x ?_ hx) B.out
      have := (List.getElem?_eq_some_iff.1 hx).1
      have := hln.out
      omega

set_option maxRecDepth 100000 in
set_option maxHeartbeats 1000000 in
theorem none24_30 (v : Value) (l : List Rl) (P : Nat → Rl → Prop) (pv : Value) (w : World) (hl : Rls w v l) (hn : l.length ≤ 1000000)
    (C : ∀ (W : World) (j : Nat) (x : Rl), Below w.heap.size w W → l[j]? = some x → x.okW W → Calls Tryd.prog 49 #[.int .i64 j, x.fv, pv] W (AnsN (P j x) W)) :
    Calls Tryd.prog 43 #[v, .func (.func 49) #[] #[pv]] w (Ans (∀ (i : Nat) (x : Rl), l[i]? = some x → P i x) w) := by
  have HL := hid hl
  obtain ⟨a, cap, rfl, hr⟩ := hl.at
  have HR := hid hr
  replace C := hid C
  clear hr hl
  generalize hln : l.length = n at *
  replace hln := hid hln
  go_enter Tryd.func43, Tryd.ntmps43
  go_wp2_with fail
  go_loopw [9] (fun t wr => ∃ j : Nat, t = .int .i64 j ∧ j ≤ n ∧ Hid (∀ (i : Nat) (x : Rl), i < j → l[i]? = some x → P i x) ∧ Hid (Below w.heap.size w wr)) (fun t _ => n - (intOf t).toNat)
  case atStart => exact ⟨0, rfl, by omega, hid (fun i x h => by omega), Below.refl _ _⟩
  case round =>
    obtain ⟨j, rfl, hj, E, B⟩ := hrel
    by_cases hjn : j < n
    · obtain ⟨x, b, off, hx, rfl, hb, hr, ok⟩ := HR.out j hjn
      replace hr := fun k u hk => (B.out.cell (p := ⟨b, off + j * 1 + k, none⟩) hb).trans (hr k u hk)
      have c0 := hr 0 _ rfl
      simp only [Nat.add_zero, Nat.mul_one] at c0
      have K2 := hid (B.out)
      replace C := hid (fun W h => C.out W j x h hx)
      have ok2 := hid (fun W (h : Below w.heap.size w W) => Rl.kept ok h)
      have hx' := hid hx
      clear hr HR HL ok B hx
      go_wp2_with (go_at_call 49; refine Calls.mono (C.out _ K2.out (ok2.out _ K2.out)) ?_; rintro e w' ⟨q, rfl, hq, hb'⟩; replace hq := hid hq; cases q)
      · go_roundw
        case rel =>
          refine ⟨j + 1, by go_num, by omega, hid (fun i y hi hy => ?_), bover K2.out hb'⟩
          by_cases hij : i < j
          · exact E.out i y hij hy
          · obtain rfl : i = j := by omega
            rw [hx'.out] at hy
            cases hy
            simpa using hq.out
        case measure => simp [intOf]; omega
      · go_ret
        have h1 : ¬ P j x := by simpa using hq.out
        exact exNo (fun h => h1 (h j x hx'.out)) (bover K2.out hb')
    · clear HR C HL
      go_wp2
      go_ret
      refine exYes (fun i x hx => E.out i x ?_ hx) B.out
      have := (List.getElem?_eq_some_iff.1 hx).1
      have := hln.out
      omega

end Go.Proofs.YtdpbapoahfggeaaDoor
/- Contracts of noneWrong: nothing of a row is wrong. -/
namespace Go.Proofs.YtdpbapoahfggeaaDoor
open Go.ChangeShapes Go.WideShapes Go.ChangeAt Go.RowKit
set_option linter.unusedVariables false
set_option linter.unusedSimpArgs false

set_option maxRecDepth 100000 in
set_option maxHeartbeats 1000000 in
theorem none31_32 (v : Value) (l : List Bd) (P : Nat → Bd → Prop) (pv : Value) (w : World) (hl : Bds w v l) (hn : l.length ≤ 1000000)
    (C : ∀ (W : World) (j : Nat) (x : Bd), Below w.heap.size w W → l[j]? = some x → x.okW W → Calls Tryd.prog 51 #[.int .i64 j, .agg #[x.sv, x.cv, .int .i64 x.most], pv] W (AnsN (P j x) W)) :
    Calls Tryd.prog 50 #[v, .func (.func 51) #[] #[pv]] w (Ans (∀ (i : Nat) (x : Bd), l[i]? = some x → P i x) w) := by
  have HL := hid hl
  obtain ⟨a, cap, rfl, hr⟩ := hl.at
  have HR := hid hr
  replace C := hid C
  clear hr hl
  generalize hln : l.length = n at *
  replace hln := hid hln
  go_enter Tryd.func50, Tryd.ntmps50
  go_wp2_with fail
  go_loopw [9] (fun t wr => ∃ j : Nat, t = .int .i64 j ∧ j ≤ n ∧ Hid (∀ (i : Nat) (x : Bd), i < j → l[i]? = some x → P i x) ∧ Hid (Below w.heap.size w wr)) (fun t _ => n - (intOf t).toNat)
  case atStart => exact ⟨0, rfl, by omega, hid (fun i x h => by omega), Below.refl _ _⟩
  case round =>
    obtain ⟨j, rfl, hj, E, B⟩ := hrel
    by_cases hjn : j < n
    · obtain ⟨x, b, off, hx, rfl, hb, hr, ok⟩ := HR.out j hjn
      replace hr := fun k u hk => (B.out.cell (p := ⟨b, off + j * 3 + k, none⟩) hb).trans (hr k u hk)
      have c0 := hr 0 _ rfl; have c1 := hr 1 _ rfl; have c2 := hr 2 _ rfl
      simp only [Nat.add_zero, Nat.mul_one] at c0
      have K2 := hid (B.out.alloc B.out.size (.cells #[x.sv, x.cv, .int .i64 x.most] 55))
      replace C := hid (fun W h => C.out W j x h hx)
      have ok2 := hid (fun W (h : Below w.heap.size w W) => Bd.kept ok h)
      have hx' := hid hx
      obtain ⟨a1, p1, e1⟩ := ok.2.1.form
      obtain ⟨a2, p2, e2⟩ := ok.2.2.form
      simp only [e1, e2] at c0 c1 C K2
      clear e1 e2
      clear hr HR HL ok B hx
      go_wp2_with (go_at_call 51; refine Calls.mono (C.out _ K2.out (ok2.out _ K2.out)) ?_; rintro e w' ⟨q, rfl, hq, hb'⟩; replace hq := hid hq; cases q)
      · go_roundw
        case rel =>
          refine ⟨j + 1, by go_num, by omega, hid (fun i y hi hy => ?_), bover K2.out hb'⟩
          by_cases hij : i < j
          · exact E.out i y hij hy
          · obtain rfl : i = j := by omega
            rw [hx'.out] at hy
            cases hy
            simpa using hq.out
        case measure => simp [intOf]; omega
      · go_ret
        have h1 : ¬ P j x := by simpa using hq.out
        exact exNo (fun h => h1 (h j x hx'.out)) (bover K2.out hb')
    · clear HR C HL
      go_wp2
      go_ret
      refine exYes (fun i x hx => E.out i x ?_ hx) B.out
      have := (List.getElem?_eq_some_iff.1 hx).1
      have := hln.out
      omega

set_option maxRecDepth 100000 in
set_option maxHeartbeats 1000000 in
theorem none31_41 (v : Value) (l : List Bd) (P : Nat → Bd → Prop) (pv : Value) (w : World) (hl : Bds w v l) (hn : l.length ≤ 1000000)
    (C : ∀ (W : World) (j : Nat) (x : Bd), Below w.heap.size w W → l[j]? = some x → x.okW W → Calls Tryd.prog 60 #[.int .i64 j, .agg #[x.sv, x.cv, .int .i64 x.most], pv] W (AnsN (P j x) W)) :
    Calls Tryd.prog 50 #[v, .func (.func 60) #[] #[pv]] w (Ans (∀ (i : Nat) (x : Bd), l[i]? = some x → P i x) w) := by
  have HL := hid hl
  obtain ⟨a, cap, rfl, hr⟩ := hl.at
  have HR := hid hr
  replace C := hid C
  clear hr hl
  generalize hln : l.length = n at *
  replace hln := hid hln
  go_enter Tryd.func50, Tryd.ntmps50
  go_wp2_with fail
  go_loopw [9] (fun t wr => ∃ j : Nat, t = .int .i64 j ∧ j ≤ n ∧ Hid (∀ (i : Nat) (x : Bd), i < j → l[i]? = some x → P i x) ∧ Hid (Below w.heap.size w wr)) (fun t _ => n - (intOf t).toNat)
  case atStart => exact ⟨0, rfl, by omega, hid (fun i x h => by omega), Below.refl _ _⟩
  case round =>
    obtain ⟨j, rfl, hj, E, B⟩ := hrel
    by_cases hjn : j < n
    · obtain ⟨x, b, off, hx, rfl, hb, hr, ok⟩ := HR.out j hjn
      replace hr := fun k u hk => (B.out.cell (p := ⟨b, off + j * 3 + k, none⟩) hb).trans (hr k u hk)
      have c0 := hr 0 _ rfl; have c1 := hr 1 _ rfl; have c2 := hr 2 _ rfl
      simp only [Nat.add_zero, Nat.mul_one] at c0
      have K2 := hid (B.out.alloc B.out.size (.cells #[x.sv, x.cv, .int .i64 x.most] 55))
      replace C := hid (fun W h => C.out W j x h hx)
      have ok2 := hid (fun W (h : Below w.heap.size w W) => Bd.kept ok h)
      have hx' := hid hx
      obtain ⟨a1, p1, e1⟩ := ok.2.1.form
      obtain ⟨a2, p2, e2⟩ := ok.2.2.form
      simp only [e1, e2] at c0 c1 C K2
      clear e1 e2
      clear hr HR HL ok B hx
      go_wp2_with (go_at_call 60; refine Calls.mono (C.out _ K2.out (ok2.out _ K2.out)) ?_; rintro e w' ⟨q, rfl, hq, hb'⟩; replace hq := hid hq; cases q)
      · go_roundw
        case rel =>
          refine ⟨j + 1, by go_num, by omega, hid (fun i y hi hy => ?_), bover K2.out hb'⟩
          by_cases hij : i < j
          · exact E.out i y hij hy
          · obtain rfl : i = j := by omega
            rw [hx'.out] at hy
            cases hy
            simpa using hq.out
        case measure => simp [intOf]; omega
      · go_ret
        have h1 : ¬ P j x := by simpa using hq.out
        exact exNo (fun h => h1 (h j x hx'.out)) (bover K2.out hb')
    · clear HR C HL
      go_wp2
      go_ret
      refine exYes (fun i x hx => E.out i x ?_ hx) B.out
      have := (List.getElem?_eq_some_iff.1 hx).1
      have := hln.out
      omega

set_option maxRecDepth 100000 in
set_option maxHeartbeats 1000000 in
theorem none33_34 (v : Value) (l : List Sec) (P : Nat → Sec → Prop) (pv : Value) (w : World) (hl : Secs w v l) (hn : l.length ≤ 1000000)
    (C : ∀ (W : World) (j : Nat) (x : Sec), Below w.heap.size w W → l[j]? = some x → x.okW W → Calls Tryd.prog 53 #[.int .i64 j, .agg #[.int .i64 x.th, .int .i64 x.fr, .int .i64 x.to], pv] W (AnsN (P j x) W)) :
    Calls Tryd.prog 52 #[v, .func (.func 53) #[] #[pv]] w (Ans (∀ (i : Nat) (x : Sec), l[i]? = some x → P i x) w) := by
  have HL := hid hl
  obtain ⟨a, cap, rfl, hr⟩ := hl.at
  have HR := hid hr
  replace C := hid C
  clear hr hl
  generalize hln : l.length = n at *
  replace hln := hid hln
  go_enter Tryd.func52, Tryd.ntmps52
  go_wp2_with fail
  go_loopw [9] (fun t wr => ∃ j : Nat, t = .int .i64 j ∧ j ≤ n ∧ Hid (∀ (i : Nat) (x : Sec), i < j → l[i]? = some x → P i x) ∧ Hid (Below w.heap.size w wr)) (fun t _ => n - (intOf t).toNat)
  case atStart => exact ⟨0, rfl, by omega, hid (fun i x h => by omega), Below.refl _ _⟩
  case round =>
    obtain ⟨j, rfl, hj, E, B⟩ := hrel
    by_cases hjn : j < n
    · obtain ⟨x, b, off, hx, rfl, hb, hr, ok⟩ := HR.out j hjn
      replace hr := fun k u hk => (B.out.cell (p := ⟨b, off + j * 3 + k, none⟩) hb).trans (hr k u hk)
      have c0 := hr 0 _ rfl; have c1 := hr 1 _ rfl; have c2 := hr 2 _ rfl
      simp only [Nat.add_zero, Nat.mul_one] at c0
      have K2 := hid (B.out.alloc B.out.size (.cells #[.int .i64 x.th, .int .i64 x.fr, .int .i64 x.to] 63))
      replace C := hid (fun W h => C.out W j x h hx)
      have ok2 := hid (fun W (h : Below w.heap.size w W) => Sec.kept ok h)
      have hx' := hid hx
      clear hr HR HL ok B hx
      go_wp2_with (go_at_call 53; refine Calls.mono (C.out _ K2.out (ok2.out _ K2.out)) ?_; rintro e w' ⟨q, rfl, hq, hb'⟩; replace hq := hid hq; cases q)
      · go_roundw
        case rel =>
          refine ⟨j + 1, by go_num, by omega, hid (fun i y hi hy => ?_), bover K2.out hb'⟩
          by_cases hij : i < j
          · exact E.out i y hij hy
          · obtain rfl : i = j := by omega
            rw [hx'.out] at hy
            cases hy
            simpa using hq.out
        case measure => simp [intOf]; omega
      · go_ret
        have h1 : ¬ P j x := by simpa using hq.out
        exact exNo (fun h => h1 (h j x hx'.out)) (bover K2.out hb')
    · clear HR C HL
      go_wp2
      go_ret
      refine exYes (fun i x hx => E.out i x ?_ hx) B.out
      have := (List.getElem?_eq_some_iff.1 hx).1
      have := hln.out
      omega

set_option maxRecDepth 100000 in
set_option maxHeartbeats 1000000 in
theorem none39_40 (v : Value) (l : List Ste) (P : Nat → Ste → Prop) (pv : Value) (w : World) (hl : Stes w v l) (hn : l.length ≤ 1000000)
    (C : ∀ (W : World) (j : Nat) (x : Ste), Below w.heap.size w W → l[j]? = some x → x.okW W → Calls Tryd.prog 59 #[.int .i64 j, .agg #[.int .i64 x.th, .int .i64 x.pl, .int .i64 x.rc], pv] W (AnsN (P j x) W)) :
    Calls Tryd.prog 58 #[v, .func (.func 59) #[] #[pv]] w (Ans (∀ (i : Nat) (x : Ste), l[i]? = some x → P i x) w) := by
  have HL := hid hl
  obtain ⟨a, cap, rfl, hr⟩ := hl.at
  have HR := hid hr
  replace C := hid C
  clear hr hl
  generalize hln : l.length = n at *
  replace hln := hid hln
  go_enter Tryd.func58, Tryd.ntmps58
  go_wp2_with fail
  go_loopw [9] (fun t wr => ∃ j : Nat, t = .int .i64 j ∧ j ≤ n ∧ Hid (∀ (i : Nat) (x : Ste), i < j → l[i]? = some x → P i x) ∧ Hid (Below w.heap.size w wr)) (fun t _ => n - (intOf t).toNat)
  case atStart => exact ⟨0, rfl, by omega, hid (fun i x h => by omega), Below.refl _ _⟩
  case round =>
    obtain ⟨j, rfl, hj, E, B⟩ := hrel
    by_cases hjn : j < n
    · obtain ⟨x, b, off, hx, rfl, hb, hr, ok⟩ := HR.out j hjn
      replace hr := fun k u hk => (B.out.cell (p := ⟨b, off + j * 3 + k, none⟩) hb).trans (hr k u hk)
      have c0 := hr 0 _ rfl; have c1 := hr 1 _ rfl; have c2 := hr 2 _ rfl
      simp only [Nat.add_zero, Nat.mul_one] at c0
      have K2 := hid (B.out.alloc B.out.size (.cells #[.int .i64 x.th, .int .i64 x.pl, .int .i64 x.rc] 66))
      replace C := hid (fun W h => C.out W j x h hx)
      have ok2 := hid (fun W (h : Below w.heap.size w W) => Ste.kept ok h)
      have hx' := hid hx
      clear hr HR HL ok B hx
      go_wp2_with (go_at_call 59; refine Calls.mono (C.out _ K2.out (ok2.out _ K2.out)) ?_; rintro e w' ⟨q, rfl, hq, hb'⟩; replace hq := hid hq; cases q)
      · go_roundw
        case rel =>
          refine ⟨j + 1, by go_num, by omega, hid (fun i y hi hy => ?_), bover K2.out hb'⟩
          by_cases hij : i < j
          · exact E.out i y hij hy
          · obtain rfl : i = j := by omega
            rw [hx'.out] at hy
            cases hy
            simpa using hq.out
        case measure => simp [intOf]; omega
      · go_ret
        have h1 : ¬ P j x := by simpa using hq.out
        exact exNo (fun h => h1 (h j x hx'.out)) (bover K2.out hb')
    · clear HR C HL
      go_wp2
      go_ret
      refine exYes (fun i x hx => E.out i x ?_ hx) B.out
      have := (List.getElem?_eq_some_iff.1 hx).1
      have := hln.out
      omega

set_option maxRecDepth 100000 in
set_option maxHeartbeats 1000000 in
theorem none49_50 (v : Value) (l : List Ins) (P : Nat → Ins → Prop) (pv : Value) (w : World) (hl : Inss w v l) (hn : l.length ≤ 1000000)
    (C : ∀ (W : World) (j : Nat) (x : Ins), Below w.heap.size w W → l[j]? = some x → x.okW W → Calls Tryd.prog 68 #[.int .i64 j, .agg #[.int .i64 x.op, .int .i64 x.dst, .int .i64 x.src, .int .i64 x.rc, .int .i64 x.n, .int .i64 x.to, x.iv, x.xv], pv] W (AnsN (P j x) W)) :
    Calls Tryd.prog 67 #[v, .func (.func 68) #[] #[pv]] w (Ans (∀ (i : Nat) (x : Ins), l[i]? = some x → P i x) w) := by
  have HL := hid hl
  obtain ⟨a, cap, rfl, hr⟩ := hl.at
  have HR := hid hr
  replace C := hid C
  clear hr hl
  generalize hln : l.length = n at *
  replace hln := hid hln
  go_enter Tryd.func67, Tryd.ntmps67
  go_wp2_with fail
  go_loopw [9] (fun t wr => ∃ j : Nat, t = .int .i64 j ∧ j ≤ n ∧ Hid (∀ (i : Nat) (x : Ins), i < j → l[i]? = some x → P i x) ∧ Hid (Below w.heap.size w wr)) (fun t _ => n - (intOf t).toNat)
  case atStart => exact ⟨0, rfl, by omega, hid (fun i x h => by omega), Below.refl _ _⟩
  case round =>
    obtain ⟨j, rfl, hj, E, B⟩ := hrel
    by_cases hjn : j < n
    · obtain ⟨x, b, off, hx, rfl, hb, hr, ok⟩ := HR.out j hjn
      replace hr := fun k u hk => (B.out.cell (p := ⟨b, off + j * 8 + k, none⟩) hb).trans (hr k u hk)
      have c0 := hr 0 _ rfl; have c1 := hr 1 _ rfl; have c2 := hr 2 _ rfl; have c3 := hr 3 _ rfl; have c4 := hr 4 _ rfl; have c5 := hr 5 _ rfl; have c6 := hr 6 _ rfl; have c7 := hr 7 _ rfl
      simp only [Nat.add_zero, Nat.mul_one] at c0
      have K2 := hid (B.out.alloc B.out.size (.cells #[.int .i64 x.op, .int .i64 x.dst, .int .i64 x.src, .int .i64 x.rc, .int .i64 x.n, .int .i64 x.to, x.iv, x.xv] 58))
      replace C := hid (fun W h => C.out W j x h hx)
      have ok2 := hid (fun W (h : Below w.heap.size w W) => Ins.kept ok h)
      have hx' := hid hx
      obtain ⟨a1, p1, e1⟩ := ok.2.1.form
      obtain ⟨a2, p2, e2⟩ := ok.2.2.form
      simp only [e1, e2] at c6 c7 C K2
      clear e1 e2
      clear hr HR HL ok B hx
      go_wp2_with (go_at_call 68; refine Calls.mono (C.out _ K2.out (ok2.out _ K2.out)) ?_; rintro e w' ⟨q, rfl, hq, hb'⟩; replace hq := hid hq; cases q)
      · go_roundw
        case rel =>
          refine ⟨j + 1, by go_num, by omega, hid (fun i y hi hy => ?_), bover K2.out hb'⟩
          by_cases hij : i < j
          · exact E.out i y hij hy
          · obtain rfl : i = j := by omega
            rw [hx'.out] at hy
            cases hy
            simpa using hq.out
        case measure => simp [intOf]; omega
      · go_ret
        have h1 : ¬ P j x := by simpa using hq.out
        exact exNo (fun h => h1 (h j x hx'.out)) (bover K2.out hb')
    · clear HR C HL
      go_wp2
      go_ret
      refine exYes (fun i x hx => E.out i x ?_ hx) B.out
      have := (List.getElem?_eq_some_iff.1 hx).1
      have := hln.out
      omega

end Go.Proofs.YtdpbapoahfggeaaDoor
/- Contracts of shapeOf, Has and has: which fields an instruction has. -/
namespace Go.Proofs.YtdpbapoahfggeaaDoor
open Go.ChangeShapes Go.WideShapes Go.ChangeAt Go.RowKit
set_option linter.unusedVariables false
set_option linter.unusedSimpArgs false

set_option maxHeartbeats 1000000 in
theorem shape2 (w : World) : Calls Tryd.prog 70 #[.int .i64 2] w fun e w' => e = .returned (.tuple #[shapeV 2, .bool true]) ∧ Below w.heap.size w w' := by
  go_enter Tryd.func70, Tryd.ntmps70
  go_wp2
  try simp only [Exit.inBlock, Exit.then]
  refine bodyPost_ret (results_row_tmp (P := Tryd.prog) rfl _ _ w.heap.size _ _ _ _ rfl (by first | exact heap_alloc_new _ _ | skip) Tryd.underlying119 rfl (by kernel_rfl)) rfl ?_
  exact ⟨rfl, (Below.refl _ _).alloc (Nat.le_refl _) _⟩

set_option maxHeartbeats 1000000 in
theorem shape3 (w : World) : Calls Tryd.prog 70 #[.int .i64 3] w fun e w' => e = .returned (.tuple #[shapeV 3, .bool true]) ∧ Below w.heap.size w w' := by
  go_enter Tryd.func70, Tryd.ntmps70
  go_wp2
  try simp only [Exit.inBlock, Exit.then]
  refine bodyPost_ret (results_row_tmp (P := Tryd.prog) rfl _ _ w.heap.size _ _ _ _ rfl (by first | exact heap_alloc_new _ _ | skip) Tryd.underlying119 rfl (by kernel_rfl)) rfl ?_
  exact ⟨rfl, (Below.refl _ _).alloc (Nat.le_refl _) _⟩

set_option maxHeartbeats 1000000 in
theorem shape4 (w : World) : Calls Tryd.prog 70 #[.int .i64 4] w fun e w' => e = .returned (.tuple #[shapeV 4, .bool true]) ∧ Below w.heap.size w w' := by
  go_enter Tryd.func70, Tryd.ntmps70
  go_wp2
  try simp only [Exit.inBlock, Exit.then]
  refine bodyPost_ret (results_row_tmp (P := Tryd.prog) rfl _ _ w.heap.size _ _ _ _ rfl (by first | exact heap_alloc_new _ _ | skip) Tryd.underlying119 rfl (by kernel_rfl)) rfl ?_
  exact ⟨rfl, (Below.refl _ _).alloc (Nat.le_refl _) _⟩

set_option maxHeartbeats 1000000 in
theorem shape5 (w : World) : Calls Tryd.prog 70 #[.int .i64 5] w fun e w' => e = .returned (.tuple #[shapeV 5, .bool true]) ∧ Below w.heap.size w w' := by
  go_enter Tryd.func70, Tryd.ntmps70
  go_wp2
  try simp only [Exit.inBlock, Exit.then]
  refine bodyPost_ret (results_row_tmp (P := Tryd.prog) rfl _ _ w.heap.size _ _ _ _ rfl (by first | exact heap_alloc_new _ _ | skip) Tryd.underlying119 rfl (by kernel_rfl)) rfl ?_
  exact ⟨rfl, (Below.refl _ _).alloc (Nat.le_refl _) _⟩

set_option maxHeartbeats 1000000 in
theorem shape6 (w : World) : Calls Tryd.prog 70 #[.int .i64 6] w fun e w' => e = .returned (.tuple #[shapeV 6, .bool true]) ∧ Below w.heap.size w w' := by
  go_enter Tryd.func70, Tryd.ntmps70
  go_wp2
  try simp only [Exit.inBlock, Exit.then]
  refine bodyPost_ret (results_row_tmp (P := Tryd.prog) rfl _ _ w.heap.size _ _ _ _ rfl (by first | exact heap_alloc_new _ _ | skip) Tryd.underlying119 rfl (by kernel_rfl)) rfl ?_
  exact ⟨rfl, (Below.refl _ _).alloc (Nat.le_refl _) _⟩

set_option maxHeartbeats 1000000 in
theorem shape7 (w : World) : Calls Tryd.prog 70 #[.int .i64 7] w fun e w' => e = .returned (.tuple #[shapeV 7, .bool true]) ∧ Below w.heap.size w w' := by
  go_enter Tryd.func70, Tryd.ntmps70
  go_wp2
  try simp only [Exit.inBlock, Exit.then]
  refine bodyPost_ret (results_row_tmp (P := Tryd.prog) rfl _ _ w.heap.size _ _ _ _ rfl (by first | exact heap_alloc_new _ _ | skip) Tryd.underlying119 rfl (by kernel_rfl)) rfl ?_
  exact ⟨rfl, (Below.refl _ _).alloc (Nat.le_refl _) _⟩

set_option maxHeartbeats 1000000 in
theorem shape8 (w : World) : Calls Tryd.prog 70 #[.int .i64 8] w fun e w' => e = .returned (.tuple #[shapeV 8, .bool true]) ∧ Below w.heap.size w w' := by
  go_enter Tryd.func70, Tryd.ntmps70
  go_wp2
  try simp only [Exit.inBlock, Exit.then]
  refine bodyPost_ret (results_row_tmp (P := Tryd.prog) rfl _ _ w.heap.size _ _ _ _ rfl (by first | exact heap_alloc_new _ _ | skip) Tryd.underlying119 rfl (by kernel_rfl)) rfl ?_
  exact ⟨rfl, (Below.refl _ _).alloc (Nat.le_refl _) _⟩

set_option maxHeartbeats 1000000 in
theorem shape9 (w : World) : Calls Tryd.prog 70 #[.int .i64 9] w fun e w' => e = .returned (.tuple #[shapeV 9, .bool true]) ∧ Below w.heap.size w w' := by
  go_enter Tryd.func70, Tryd.ntmps70
  go_wp2
  try simp only [Exit.inBlock, Exit.then]
  refine bodyPost_ret (results_row_tmp (P := Tryd.prog) rfl _ _ w.heap.size _ _ _ _ rfl (by first | exact heap_alloc_new _ _ | skip) Tryd.underlying119 rfl (by kernel_rfl)) rfl ?_
  exact ⟨rfl, (Below.refl _ _).alloc (Nat.le_refl _) _⟩

set_option maxHeartbeats 1000000 in
theorem shape10 (w : World) : Calls Tryd.prog 70 #[.int .i64 10] w fun e w' => e = .returned (.tuple #[shapeV 10, .bool true]) ∧ Below w.heap.size w w' := by
  go_enter Tryd.func70, Tryd.ntmps70
  go_wp2
  try simp only [Exit.inBlock, Exit.then]
  refine bodyPost_ret (results_row_tmp (P := Tryd.prog) rfl _ _ w.heap.size _ _ _ _ rfl (by first | exact heap_alloc_new _ _ | skip) Tryd.underlying119 rfl (by kernel_rfl)) rfl ?_
  exact ⟨rfl, (Below.refl _ _).alloc (Nat.le_refl _) _⟩

set_option maxHeartbeats 1000000 in
theorem shape11 (w : World) : Calls Tryd.prog 70 #[.int .i64 11] w fun e w' => e = .returned (.tuple #[shapeV 11, .bool true]) ∧ Below w.heap.size w w' := by
  go_enter Tryd.func70, Tryd.ntmps70
  go_wp2
  try simp only [Exit.inBlock, Exit.then]
  refine bodyPost_ret (results_row_tmp (P := Tryd.prog) rfl _ _ w.heap.size _ _ _ _ rfl (by first | exact heap_alloc_new _ _ | skip) Tryd.underlying119 rfl (by kernel_rfl)) rfl ?_
  exact ⟨rfl, (Below.refl _ _).alloc (Nat.le_refl _) _⟩

set_option maxHeartbeats 1000000 in
theorem shape12 (w : World) : Calls Tryd.prog 70 #[.int .i64 12] w fun e w' => e = .returned (.tuple #[shapeV 12, .bool true]) ∧ Below w.heap.size w w' := by
  go_enter Tryd.func70, Tryd.ntmps70
  go_wp2
  try simp only [Exit.inBlock, Exit.then]
  refine bodyPost_ret (results_row_tmp (P := Tryd.prog) rfl _ _ w.heap.size _ _ _ _ rfl (by first | exact heap_alloc_new _ _ | skip) Tryd.underlying119 rfl (by kernel_rfl)) rfl ?_
  exact ⟨rfl, (Below.refl _ _).alloc (Nat.le_refl _) _⟩

set_option maxHeartbeats 1000000 in
theorem shape13 (w : World) : Calls Tryd.prog 70 #[.int .i64 13] w fun e w' => e = .returned (.tuple #[shapeV 13, .bool true]) ∧ Below w.heap.size w w' := by
  go_enter Tryd.func70, Tryd.ntmps70
  go_wp2
  try simp only [Exit.inBlock, Exit.then]
  refine bodyPost_ret (results_row_tmp (P := Tryd.prog) rfl _ _ w.heap.size _ _ _ _ rfl (by first | exact heap_alloc_new _ _ | skip) Tryd.underlying119 rfl (by kernel_rfl)) rfl ?_
  exact ⟨rfl, (Below.refl _ _).alloc (Nat.le_refl _) _⟩

set_option maxHeartbeats 1000000 in
theorem shape14 (w : World) : Calls Tryd.prog 70 #[.int .i64 14] w fun e w' => e = .returned (.tuple #[shapeV 14, .bool true]) ∧ Below w.heap.size w w' := by
  go_enter Tryd.func70, Tryd.ntmps70
  go_wp2
  try simp only [Exit.inBlock, Exit.then]
  refine bodyPost_ret (results_row_tmp (P := Tryd.prog) rfl _ _ w.heap.size _ _ _ _ rfl (by first | exact heap_alloc_new _ _ | skip) Tryd.underlying119 rfl (by kernel_rfl)) rfl ?_
  exact ⟨rfl, (Below.refl _ _).alloc (Nat.le_refl _) _⟩

set_option maxHeartbeats 1000000 in
theorem shape15 (w : World) : Calls Tryd.prog 70 #[.int .i64 15] w fun e w' => e = .returned (.tuple #[shapeV 15, .bool true]) ∧ Below w.heap.size w w' := by
  go_enter Tryd.func70, Tryd.ntmps70
  go_wp2
  try simp only [Exit.inBlock, Exit.then]
  refine bodyPost_ret (results_row_tmp (P := Tryd.prog) rfl _ _ w.heap.size _ _ _ _ rfl (by first | exact heap_alloc_new _ _ | skip) Tryd.underlying119 rfl (by kernel_rfl)) rfl ?_
  exact ⟨rfl, (Below.refl _ _).alloc (Nat.le_refl _) _⟩

set_option maxHeartbeats 1000000 in
theorem shape16 (w : World) : Calls Tryd.prog 70 #[.int .i64 16] w fun e w' => e = .returned (.tuple #[shapeV 16, .bool true]) ∧ Below w.heap.size w w' := by
  go_enter Tryd.func70, Tryd.ntmps70
  go_wp2
  try simp only [Exit.inBlock, Exit.then]
  refine bodyPost_ret (results_row_tmp (P := Tryd.prog) rfl _ _ w.heap.size _ _ _ _ rfl (by first | exact heap_alloc_new _ _ | skip) Tryd.underlying119 rfl (by kernel_rfl)) rfl ?_
  exact ⟨rfl, (Below.refl _ _).alloc (Nat.le_refl _) _⟩

set_option maxHeartbeats 1000000 in
theorem shape17 (w : World) : Calls Tryd.prog 70 #[.int .i64 17] w fun e w' => e = .returned (.tuple #[shapeV 17, .bool true]) ∧ Below w.heap.size w w' := by
  go_enter Tryd.func70, Tryd.ntmps70
  go_wp2
  try simp only [Exit.inBlock, Exit.then]
  refine bodyPost_ret (results_row_tmp (P := Tryd.prog) rfl _ _ w.heap.size _ _ _ _ rfl (by first | exact heap_alloc_new _ _ | skip) Tryd.underlying119 rfl (by kernel_rfl)) rfl ?_
  exact ⟨rfl, (Below.refl _ _).alloc (Nat.le_refl _) _⟩

set_option maxHeartbeats 1000000 in
theorem shape_out (op : Int) (w : World) (h : op < 1 ∨ 17 < op) : Calls Tryd.prog 70 #[.int .i64 op] w fun e w' => e = .returned (.tuple #[shapeV op, .bool false]) ∧ Below w.heap.size w w' := by
  have e1 : (op == 1) = false := by simp only [beq_eq_false_iff_ne]; omega
  have e2 : (op == 2) = false := by simp only [beq_eq_false_iff_ne]; omega
  have e3 : (op == 3) = false := by simp only [beq_eq_false_iff_ne]; omega
  have e4 : (op == 4) = false := by simp only [beq_eq_false_iff_ne]; omega
  have e5 : (op == 5) = false := by simp only [beq_eq_false_iff_ne]; omega
  have e6 : (op == 6) = false := by simp only [beq_eq_false_iff_ne]; omega
  have e7 : (op == 7) = false := by simp only [beq_eq_false_iff_ne]; omega
  have e8 : (op == 8) = false := by simp only [beq_eq_false_iff_ne]; omega
  have e9 : (op == 9) = false := by simp only [beq_eq_false_iff_ne]; omega
  have e10 : (op == 10) = false := by simp only [beq_eq_false_iff_ne]; omega
  have e11 : (op == 11) = false := by simp only [beq_eq_false_iff_ne]; omega
  have e12 : (op == 12) = false := by simp only [beq_eq_false_iff_ne]; omega
  have e13 : (op == 13) = false := by simp only [beq_eq_false_iff_ne]; omega
  have e14 : (op == 14) = false := by simp only [beq_eq_false_iff_ne]; omega
  have e15 : (op == 15) = false := by simp only [beq_eq_false_iff_ne]; omega
  have e16 : (op == 16) = false := by simp only [beq_eq_false_iff_ne]; omega
  have e17 : (op == 17) = false := by simp only [beq_eq_false_iff_ne]; omega
  have F : Hid (shapeV op = .agg #[.bool false, .bool false, .bool false, .bool false, .bool false, .bool false, .bool false]) := by
    simp [Hid, shapeV, hasD, hasS, hasR, hasN, hasT, hasI, hasX, *]
  go_enter Tryd.func70, Tryd.ntmps70
  go_wp2
  try simp only [Exit.inBlock, Exit.then]
  refine bodyPost_ret (results_row_tmp (P := Tryd.prog) rfl _ _ w.heap.size _ _ _ _ rfl (by first | exact heap_alloc_new _ _ | skip) Tryd.underlying119 rfl (by kernel_rfl)) rfl ?_
  rw [F.out]
  exact ⟨rfl, (Below.refl _ _).alloc (Nat.le_refl _) _⟩

theorem shape_any (op : Int) (w : World) : Calls Tryd.prog 70 #[.int .i64 op] w fun e w' => e = .returned (.tuple #[shapeV op, .bool (isOp op)]) ∧ Below w.heap.size w w' := by
  by_cases h : op < 1 ∨ 17 < op
  · have e : isOp op = false := by simp [isOp]; omega
    rw [e]; exact shape_out op w h
  · have e : isOp op = true := by simp [isOp]; omega
    rw [e]
    have : op = 1 ∨ op = 2 ∨ op = 3 ∨ op = 4 ∨ op = 5 ∨ op = 6 ∨ op = 7 ∨ op = 8 ∨ op = 9 ∨ op = 10 ∨ op = 11 ∨ op = 12 ∨ op = 13 ∨ op = 14 ∨ op = 15 ∨ op = 16 ∨ op = 17 := by omega
    rcases this with rfl | rfl | rfl | rfl | rfl | rfl | rfl | rfl | rfl | rfl | rfl | rfl | rfl | rfl | rfl | rfl | rfl
    · exact shape1 w
    · exact shape2 w
    · exact shape3 w
    · exact shape4 w
    · exact shape5 w
    · exact shape6 w
    · exact shape7 w
    · exact shape8 w
    · exact shape9 w
    · exact shape10 w
    · exact shape11 w
    · exact shape12 w
    · exact shape13 w
    · exact shape14 w
    · exact shape15 w
    · exact shape16 w
    · exact shape17 w

end Go.Proofs.YtdpbapoahfggeaaDoor
/- Contracts of Has and has: which fields an instruction has. -/
namespace Go.Proofs.YtdpbapoahfggeaaDoor
open Go.ChangeShapes Go.WideShapes Go.ChangeAt Go.RowKit
set_option linter.unusedVariables false
set_option linter.unusedSimpArgs false

/-- Is a letter in a text? -/
def hasC (s : ByteArray) (c : Int) : Bool := s.data.toList.any fun x => (x.toNat : Int) == c

theorem any_at {α : Type} (p : α → Bool) (l : List α) (i : Nat) (h : i < l.length) (hp : p (l[i]'h) = true) : l.any p = true := List.any_eq_true.2 ⟨_, List.getElem_mem h, hp⟩
theorem any_none {α : Type} (p : α → Bool) (l : List α) (h : ∀ i, (hi : i < l.length) → p (l[i]'hi) = false) : l.any p = false := by
  rw [List.any_eq_false]
  intro x hx
  obtain ⟨i, hi, rfl⟩ := List.getElem_of_mem hx
  rw [h i hi]; simp

set_option maxRecDepth 100000 in
set_option maxHeartbeats 1000000 in
theorem has_any (s : ByteArray) (c : Int) (w : World) (hs : s.size ≤ 1000) : Calls Tryd.prog 30 #[.string s, .int .u8 c] w fun e w' => e = .returned (.bool (hasC s c)) ∧ w' = w := by
  have hlen : s.data.toList.length = s.size := by simp
  go_enter Tryd.func30, Tryd.ntmps30
  go_wp2_with fail
  go_loopw [5] (fun t wr => ∃ j : Nat, t = .int .i64 j ∧ j ≤ s.size ∧ wr = w ∧ Hid (∀ i, (hi : i < s.data.toList.length) → i < j → (((s.data.toList[i]'hi).toNat : Int) == c) = false)) (fun t _ => s.size - (intOf t).toNat)
  case atStart => exact ⟨0, rfl, by omega, rfl, hid (fun i hi h => by omega)⟩
  case round =>
    obtain ⟨j, rfl, hj, rfl, E⟩ := hrel
    by_cases hjn : j < s.size
    · have hg : s.data.toList[j]'(by omega) = s[j]'hjn := rfl
      cases hc : (((s[j]'hjn).toNat : Int) == c)
      · have F : Hid (∀ i, (hi : i < s.data.toList.length) → i < j + 1 → (((s.data.toList[i]'hi).toNat : Int) == c) = false) := hid (fun i hi h => by
          by_cases hij : i < j
          · exact E.out i hi hij
          · obtain rfl : i = j := by omega
            rw [hg]; exact hc)
        go_wp2
        go_roundw
        case rel => exact ⟨j + 1, by go_num, by omega, trivial, F⟩
        case measure => simp [intOf]; omega
      · have F : Hid (hasC s c = true) := hid (any_at _ _ j (by omega) (by rw [hg]; exact hc))
        go_wp2
        go_ret
        exact ⟨retB F.out.symm, rfl⟩
    · have F : Hid (hasC s c = false) := hid (any_none _ _ fun i hi => E.out i hi (by omega))
      go_wp2
      go_ret
      exact ⟨retB F.out.symm, rfl⟩

set_option maxHeartbeats 1000000 in
theorem Has1 (w : World) : Calls Tryd.prog 29 #[.int .i64 1] w fun e w' => e = .returned (.string ⟨#[100, 105]⟩) ∧ Below w.heap.size w w' := by
  go_enter Tryd.func29, Tryd.ntmps29
  go_wp2
  go_ret
  exact ⟨rfl, (Below.refl _ _).alloc (Nat.le_refl _) _⟩

set_option maxHeartbeats 1000000 in
theorem Has2 (w : World) : Calls Tryd.prog 29 #[.int .i64 2] w fun e w' => e = .returned (.string ⟨#[100, 110]⟩) ∧ Below w.heap.size w w' := by
  go_enter Tryd.func29, Tryd.ntmps29
  go_wp2
  go_ret
  exact ⟨rfl, (Below.refl _ _).alloc (Nat.le_refl _) _⟩

set_option maxHeartbeats 1000000 in
theorem Has3 (w : World) : Calls Tryd.prog 29 #[.int .i64 3] w fun e w' => e = .returned (.string ⟨#[100, 115, 114, 110]⟩) ∧ Below w.heap.size w w' := by
  go_enter Tryd.func29, Tryd.ntmps29
  go_wp2
  go_ret
  exact ⟨rfl, (Below.refl _ _).alloc (Nat.le_refl _) _⟩

set_option maxHeartbeats 1000000 in
theorem Has4 (w : World) : Calls Tryd.prog 29 #[.int .i64 4] w fun e w' => e = .returned (.string ⟨#[100, 115, 120]⟩) ∧ Below w.heap.size w w' := by
  go_enter Tryd.func29, Tryd.ntmps29
  go_wp2
  go_ret
  exact ⟨rfl, (Below.refl _ _).alloc (Nat.le_refl _) _⟩

set_option maxHeartbeats 1000000 in
theorem Has5 (w : World) : Calls Tryd.prog 29 #[.int .i64 5] w fun e w' => e = .returned (.string ⟨#[110, 105]⟩) ∧ Below w.heap.size w w' := by
  go_enter Tryd.func29, Tryd.ntmps29
  go_wp2
  go_ret
  exact ⟨rfl, (Below.refl _ _).alloc (Nat.le_refl _) _⟩

set_option maxHeartbeats 1000000 in
theorem Has6 (w : World) : Calls Tryd.prog 29 #[.int .i64 6] w fun e w' => e = .returned (.string ⟨#[115, 114, 110, 105]⟩) ∧ Below w.heap.size w w' := by
  go_enter Tryd.func29, Tryd.ntmps29
  go_wp2
  go_ret
  exact ⟨rfl, (Below.refl _ _).alloc (Nat.le_refl _) _⟩

set_option maxHeartbeats 1000000 in
theorem Has7 (w : World) : Calls Tryd.prog 29 #[.int .i64 7] w fun e w' => e = .returned (.string ⟨#[115, 120, 105]⟩) ∧ Below w.heap.size w w' := by
  go_enter Tryd.func29, Tryd.ntmps29
  go_wp2
  go_ret
  exact ⟨rfl, (Below.refl _ _).alloc (Nat.le_refl _) _⟩

set_option maxHeartbeats 1000000 in
theorem Has8 (w : World) : Calls Tryd.prog 29 #[.int .i64 8] w fun e w' => e = .returned (.string ⟨#[100, 114, 110]⟩) ∧ Below w.heap.size w w' := by
  go_enter Tryd.func29, Tryd.ntmps29
  go_wp2
  go_ret
  exact ⟨rfl, (Below.refl _ _).alloc (Nat.le_refl _) _⟩

set_option maxHeartbeats 1000000 in
theorem Has9 (w : World) : Calls Tryd.prog 29 #[.int .i64 9] w fun e w' => e = .returned (.string ⟨#[100, 105, 110]⟩) ∧ Below w.heap.size w w' := by
  go_enter Tryd.func29, Tryd.ntmps29
  go_wp2
  go_ret
  exact ⟨rfl, (Below.refl _ _).alloc (Nat.le_refl _) _⟩

set_option maxHeartbeats 1000000 in
theorem Has10 (w : World) : Calls Tryd.prog 29 #[.int .i64 10] w fun e w' => e = .returned (.string ⟨#[100, 115]⟩) ∧ Below w.heap.size w w' := by
  go_enter Tryd.func29, Tryd.ntmps29
  go_wp2
  go_ret
  exact ⟨rfl, (Below.refl _ _).alloc (Nat.le_refl _) _⟩

set_option maxHeartbeats 1000000 in
theorem Has11 (w : World) : Calls Tryd.prog 29 #[.int .i64 11] w fun e w' => e = .returned (.string ⟨#[105]⟩) ∧ Below w.heap.size w w' := by
  go_enter Tryd.func29, Tryd.ntmps29
  go_wp2
  go_ret
  exact ⟨rfl, (Below.refl _ _).alloc (Nat.le_refl _) _⟩

set_option maxHeartbeats 1000000 in
theorem Has12 (w : World) : Calls Tryd.prog 29 #[.int .i64 12] w fun e w' => e = .returned (.string ⟨#[105]⟩) ∧ Below w.heap.size w w' := by
  go_enter Tryd.func29, Tryd.ntmps29
  go_wp2
  go_ret
  exact ⟨rfl, (Below.refl _ _).alloc (Nat.le_refl _) _⟩

set_option maxHeartbeats 1000000 in
theorem Has13 (w : World) : Calls Tryd.prog 29 #[.int .i64 13] w fun e w' => e = .returned (.string ⟨#[116]⟩) ∧ Below w.heap.size w w' := by
  go_enter Tryd.func29, Tryd.ntmps29
  go_wp2
  go_ret
  exact ⟨rfl, (Below.refl _ _).alloc (Nat.le_refl _) _⟩

set_option maxHeartbeats 1000000 in
theorem Has14 (w : World) : Calls Tryd.prog 29 #[.int .i64 14] w fun e w' => e = .returned (.string ⟨#[116, 105]⟩) ∧ Below w.heap.size w w' := by
  go_enter Tryd.func29, Tryd.ntmps29
  go_wp2
  go_ret
  exact ⟨rfl, (Below.refl _ _).alloc (Nat.le_refl _) _⟩

set_option maxHeartbeats 1000000 in
theorem Has15 (w : World) : Calls Tryd.prog 29 #[.int .i64 15] w fun e w' => e = .returned (.string ⟨#[110]⟩) ∧ Below w.heap.size w w' := by
  go_enter Tryd.func29, Tryd.ntmps29
  go_wp2
  go_ret
  exact ⟨rfl, (Below.refl _ _).alloc (Nat.le_refl _) _⟩

set_option maxHeartbeats 1000000 in
theorem Has16 (w : World) : Calls Tryd.prog 29 #[.int .i64 16] w fun e w' => e = .returned (.string ⟨#[110]⟩) ∧ Below w.heap.size w w' := by
  go_enter Tryd.func29, Tryd.ntmps29
  go_wp2
  go_ret
  exact ⟨rfl, (Below.refl _ _).alloc (Nat.le_refl _) _⟩

set_option maxHeartbeats 1000000 in
theorem Has17 (w : World) : Calls Tryd.prog 29 #[.int .i64 17] w fun e w' => e = .returned (.string ⟨#[]⟩) ∧ Below w.heap.size w w' := by
  go_enter Tryd.func29, Tryd.ntmps29
  go_wp2
  go_ret
  exact ⟨rfl, (Below.refl _ _).alloc (Nat.le_refl _) _⟩

set_option maxHeartbeats 1000000 in
theorem Has_out (op : Int) (w : World) (h : op < 1 ∨ 17 < op) : Calls Tryd.prog 29 #[.int .i64 op] w fun e w' => e = .returned (.string ⟨#[63]⟩) ∧ Below w.heap.size w w' := by
  by_cases h1 : op < 1
  · go_enter Tryd.func29, Tryd.ntmps29
    go_wp2
    go_ret
    exact ⟨rfl, (Below.refl _ _).alloc (Nat.le_refl _) _⟩
  · have h2 : (18 : Int) ≤ op := by omega
    have h3 : 1 ≤ op := by omega
    clear h h1
    go_enter Tryd.func29, Tryd.ntmps29
    go_wp2
    go_ret
    exact ⟨rfl, (Below.refl _ _).alloc (Nat.le_refl _) _⟩

end Go.Proofs.YtdpbapoahfggeaaDoor
