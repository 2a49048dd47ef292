/- Contracts of noneWrong: nothing of a row is wrong. -/
import Derived.Test.YtdpbapoahfggeaaDoorSm1
namespace Go.Proofs.YtdpbapoahfggeaaDoor
open Go.ChangeShapes Go.WideShapes Go.ChangeAt Go.RowKit
set_option linter.unusedVariables false
set_option linter.unusedSimpArgs false

set_option maxRecDepth 100000 in
set_option maxHeartbeats 1000000 in
theorem none31_32 (v : Value) (l : List Bd) (P : Nat → Bd → Prop) (pv : Value) (w : World) (hl : Bds w v l) (hn : l.length ≤ 1000000)
    (C : ∀ (W : World) (j : Nat) (x : Bd), Below w.heap.size w W → l[j]? = some x → x.okW W → Calls Tryd.prog 51 #[.int .i64 j, .agg #[x.sv, x.cv, .int .i64 x.most], pv] W (AnsN (P j x) W)) :
    Calls Tryd.prog 50 #[v, .func (.func 51) #[] #[pv]] w (Ans (∀ (i : Nat) (x : Bd), l[i]? = some x → P i x) w) := by
  have HL := hid hl
  obtain ⟨a, cap, rfl, hr⟩ := hl.at
  have HR := hid hr
  replace C := hid C
  clear hr hl
  generalize hln : l.length = n at *
  replace hln := hid hln
  go_enter Tryd.func50, Tryd.ntmps50
  go_wp2_with fail
  go_loopw [9] (fun t wr => ∃ j : Nat, t = .int .i64 j ∧ j ≤ n ∧ Hid (∀ (i : Nat) (x : Bd), i < j → l[i]? = some x → P i x) ∧ Hid (Below w.heap.size w wr)) (fun t _ => n - (intOf t).toNat)
  case atStart => exact ⟨0, rfl, by omega, hid (fun i x h => by omega), Below.refl _ _⟩
  case round =>
    obtain ⟨j, rfl, hj, E, B⟩ := hrel
    by_cases hjn : j < n
    · obtain ⟨x, b, off, hx, rfl, hb, hr, ok⟩ := HR.out j hjn
      replace hr := fun k u hk => (B.out.cell (p := ⟨b, off + j * 3 + k, none⟩) hb).trans (hr k u hk)
      have c0 := hr 0 _ rfl; have c1 := hr 1 _ rfl; have c2 := hr 2 _ rfl
      simp only [Nat.add_zero, Nat.mul_one] at c0
      have K2 := hid (B.out.alloc B.out.size (.cells #[x.sv, x.cv, .int .i64 x.most] 55))
      replace C := hid (fun W h => C.out W j x h hx)
      have ok2 := hid (fun W (h : Below w.heap.size w W) => Bd.kept ok h)
      have hx' := hid hx
      obtain ⟨a1, p1, e1⟩ := ok.2.1.form
      obtain ⟨a2, p2, e2⟩ := ok.2.2.form
      simp only [e1, e2] at c0 c1 C K2
      clear e1 e2
      clear hr HR HL ok B hx
      go_wp2_with (go_at_call 51; refine Calls.mono (C.out _ K2.out (ok2.out _ K2.out)) ?_; rintro e w' ⟨q, rfl, hq, hb'⟩; replace hq := hid hq; cases q)
      · go_roundw
        case rel =>
          refine ⟨j + 1, by go_num, by omega, hid (fun i y hi hy => ?_), bover K2.out hb'⟩
          by_cases hij : i < j
          · exact E.out i y hij hy
          · obtain rfl : i = j := by omega
            rw [hx'.out] at hy
            cases hy
            simpa using hq.out
        case measure => simp [intOf]; omega
      · go_ret
        have h1 : ¬ P j x := by simpa using hq.out
        exact exNo (fun h => h1 (h j x hx'.out)) (bover K2.out hb')
    · clear HR C HL
      go_wp2
      go_ret
      refine exYes (fun i x hx => E.out i x ?_ hx) B.out
      have := (List.getElem?_eq_some_iff.1 hx).1
      have := hln.out
      omega

set_option maxRecDepth 100000 in
set_option maxHeartbeats 1000000 in
theorem none31_41 (v : Value) (l : List Bd) (P : Nat → Bd → Prop) (pv : Value) (w : World) (hl : Bds w v l) (hn : l.length ≤ 1000000)
    (C : ∀ (W : World) (j : Nat) (x : Bd), Below w.heap.size w W → l[j]? = some x → x.okW W → Calls Tryd.prog 60 #[.int .i64 j, .agg #[x.sv, x.cv, .int .i64 x.most], pv] W (AnsN (P j x) W)) :
    Calls Tryd.prog 50 #[v, .func (.func 60) #[] #[pv]] w (Ans (∀ (i : Nat) (x : Bd), l[i]? = some x → P i x) w) := by
  have HL := hid hl
  obtain ⟨a, cap, rfl, hr⟩ := hl.at
  have HR := hid hr
  replace C := hid C
  clear hr hl
  generalize hln : l.length = n at *
  replace hln := hid hln
  go_enter Tryd.func50, Tryd.ntmps50
  go_wp2_with fail
  go_loopw [9] (fun t wr => ∃ j : Nat, t = .int .i64 j ∧ j ≤ n ∧ Hid (∀ (i : Nat) (x : Bd), i < j → l[i]? = some x → P i x) ∧ Hid (Below w.heap.size w wr)) (fun t _ => n - (intOf t).toNat)
  case atStart => exact ⟨0, rfl, by omega, hid (fun i x h => by omega), Below.refl _ _⟩
  case round =>
    obtain ⟨j, rfl, hj, E, B⟩ := hrel
    by_cases hjn : j < n
    · obtain ⟨x, b, off, hx, rfl, hb, hr, ok⟩ := HR.out j hjn
      replace hr := fun k u hk => (B.out.cell (p := ⟨b, off + j * 3 + k, none⟩) hb).trans (hr k u hk)
      have c0 := hr 0 _ rfl; have c1 := hr 1 _ rfl; have c2 := hr 2 _ rfl
      simp only [Nat.add_zero, Nat.mul_one] at c0
      have K2 := hid (B.out.alloc B.out.size (.cells #[x.sv, x.cv, .int .i64 x.most] 55))
      replace C := hid (fun W h => C.out W j x h hx)
      have ok2 := hid (fun W (h : Below w.heap.size w W) => Bd.kept ok h)
      have hx' := hid hx
      obtain ⟨a1, p1, e1⟩ := ok.2.1.form
      obtain ⟨a2, p2, e2⟩ := ok.2.2.form
      simp only [e1, e2] at c0 c1 C K2
      clear e1 e2
      clear hr HR HL ok B hx
      go_wp2_with (go_at_call 60; refine Calls.mono (C.out _ K2.out (ok2.out _ K2.out)) ?_; rintro e w' ⟨q, rfl, hq, hb'⟩; replace hq := hid hq; cases q)
      · go_roundw
        case rel =>
          refine ⟨j + 1, by go_num, by omega, hid (fun i y hi hy => ?_), bover K2.out hb'⟩
          by_cases hij : i < j
          · exact E.out i y hij hy
          · obtain rfl : i = j := by omega
            rw [hx'.out] at hy
            cases hy
            simpa using hq.out
        case measure => simp [intOf]; omega
      · go_ret
        have h1 : ¬ P j x := by simpa using hq.out
        exact exNo (fun h => h1 (h j x hx'.out)) (bover K2.out hb')
    · clear HR C HL
      go_wp2
      go_ret
      refine exYes (fun i x hx => E.out i x ?_ hx) B.out
      have := (List.getElem?_eq_some_iff.1 hx).1
      have := hln.out
      omega

set_option maxRecDepth 100000 in
set_option maxHeartbeats 1000000 in
theorem none33_34 (v : Value) (l : List Sec) (P : Nat → Sec → Prop) (pv : Value) (w : World) (hl : Secs w v l) (hn : l.length ≤ 1000000)
    (C : ∀ (W : World) (j : Nat) (x : Sec), Below w.heap.size w W → l[j]? = some x → x.okW W → Calls Tryd.prog 53 #[.int .i64 j, .agg #[.int .i64 x.th, .int .i64 x.fr, .int .i64 x.to], pv] W (AnsN (P j x) W)) :
    Calls Tryd.prog 52 #[v, .func (.func 53) #[] #[pv]] w (Ans (∀ (i : Nat) (x : Sec), l[i]? = some x → P i x) w) := by
  have HL := hid hl
  obtain ⟨a, cap, rfl, hr⟩ := hl.at
  have HR := hid hr
  replace C := hid C
  clear hr hl
  generalize hln : l.length = n at *
  replace hln := hid hln
  go_enter Tryd.func52, Tryd.ntmps52
  go_wp2_with fail
  go_loopw [9] (fun t wr => ∃ j : Nat, t = .int .i64 j ∧ j ≤ n ∧ Hid (∀ (i : Nat) (x : Sec), i < j → l[i]? = some x → P i x) ∧ Hid (Below w.heap.size w wr)) (fun t _ => n - (intOf t).toNat)
  case atStart => exact ⟨0, rfl, by omega, hid (fun i x h => by omega), Below.refl _ _⟩
  case round =>
    obtain ⟨j, rfl, hj, E, B⟩ := hrel
    by_cases hjn : j < n
    · obtain ⟨x, b, off, hx, rfl, hb, hr, ok⟩ := HR.out j hjn
      replace hr := fun k u hk => (B.out.cell (p := ⟨b, off + j * 3 + k, none⟩) hb).trans (hr k u hk)
      have c0 := hr 0 _ rfl; have c1 := hr 1 _ rfl; have c2 := hr 2 _ rfl
      simp only [Nat.add_zero, Nat.mul_one] at c0
      have K2 := hid (B.out.alloc B.out.size (.cells #[.int .i64 x.th, .int .i64 x.fr, .int .i64 x.to] 63))
      replace C := hid (fun W h => C.out W j x h hx)
      have ok2 := hid (fun W (h : Below w.heap.size w W) => Sec.kept ok h)
      have hx' := hid hx
      clear hr HR HL ok B hx
      go_wp2_with (go_at_call 53; refine Calls.mono (C.out _ K2.out (ok2.out _ K2.out)) ?_; rintro e w' ⟨q, rfl, hq, hb'⟩; replace hq := hid hq; cases q)
      · go_roundw
        case rel =>
          refine ⟨j + 1, by go_num, by omega, hid (fun i y hi hy => ?_), bover K2.out hb'⟩
          by_cases hij : i < j
          · exact E.out i y hij hy
          · obtain rfl : i = j := by omega
            rw [hx'.out] at hy
            cases hy
            simpa using hq.out
        case measure => simp [intOf]; omega
      · go_ret
        have h1 : ¬ P j x := by simpa using hq.out
        exact exNo (fun h => h1 (h j x hx'.out)) (bover K2.out hb')
    · clear HR C HL
      go_wp2
      go_ret
      refine exYes (fun i x hx => E.out i x ?_ hx) B.out
      have := (List.getElem?_eq_some_iff.1 hx).1
      have := hln.out
      omega

set_option maxRecDepth 100000 in
set_option maxHeartbeats 1000000 in
theorem none39_40 (v : Value) (l : List Ste) (P : Nat → Ste → Prop) (pv : Value) (w : World) (hl : Stes w v l) (hn : l.length ≤ 1000000)
    (C : ∀ (W : World) (j : Nat) (x : Ste), Below w.heap.size w W → l[j]? = some x → x.okW W → Calls Tryd.prog 59 #[.int .i64 j, .agg #[.int .i64 x.th, .int .i64 x.pl, .int .i64 x.rc], pv] W (AnsN (P j x) W)) :
    Calls Tryd.prog 58 #[v, .func (.func 59) #[] #[pv]] w (Ans (∀ (i : Nat) (x : Ste), l[i]? = some x → P i x) w) := by
  have HL := hid hl
  obtain ⟨a, cap, rfl, hr⟩ := hl.at
  have HR := hid hr
  replace C := hid C
  clear hr hl
  generalize hln : l.length = n at *
  replace hln := hid hln
  go_enter Tryd.func58, Tryd.ntmps58
  go_wp2_with fail
  go_loopw [9] (fun t wr => ∃ j : Nat, t = .int .i64 j ∧ j ≤ n ∧ Hid (∀ (i : Nat) (x : Ste), i < j → l[i]? = some x → P i x) ∧ Hid (Below w.heap.size w wr)) (fun t _ => n - (intOf t).toNat)
  case atStart => exact ⟨0, rfl, by omega, hid (fun i x h => by omega), Below.refl _ _⟩
  case round =>
    obtain ⟨j, rfl, hj, E, B⟩ := hrel
    by_cases hjn : j < n
    · obtain ⟨x, b, off, hx, rfl, hb, hr, ok⟩ := HR.out j hjn
      replace hr := fun k u hk => (B.out.cell (p := ⟨b, off + j * 3 + k, none⟩) hb).trans (hr k u hk)
      have c0 := hr 0 _ rfl; have c1 := hr 1 _ rfl; have c2 := hr 2 _ rfl
      simp only [Nat.add_zero, Nat.mul_one] at c0
      have K2 := hid (B.out.alloc B.out.size (.cells #[.int .i64 x.th, .int .i64 x.pl, .int .i64 x.rc] 66))
      replace C := hid (fun W h => C.out W j x h hx)
      have ok2 := hid (fun W (h : Below w.heap.size w W) => Ste.kept ok h)
      have hx' := hid hx
      clear hr HR HL ok B hx
      go_wp2_with (go_at_call 59; refine Calls.mono (C.out _ K2.out (ok2.out _ K2.out)) ?_; rintro e w' ⟨q, rfl, hq, hb'⟩; replace hq := hid hq; cases q)
      · go_roundw
        case rel =>
          refine ⟨j + 1, by go_num, by omega, hid (fun i y hi hy => ?_), bover K2.out hb'⟩
          by_cases hij : i < j
          · exact E.out i y hij hy
          · obtain rfl : i = j := by omega
            rw [hx'.out] at hy
            cases hy
            simpa using hq.out
        case measure => simp [intOf]; omega
      · go_ret
        have h1 : ¬ P j x := by simpa using hq.out
        exact exNo (fun h => h1 (h j x hx'.out)) (bover K2.out hb')
    · clear HR C HL
      go_wp2
      go_ret
      refine exYes (fun i x hx => E.out i x ?_ hx) B.out
      have := (List.getElem?_eq_some_iff.1 hx).1
      have := hln.out
      omega

set_option maxRecDepth 100000 in
set_option maxHeartbeats 1000000 in
theorem none49_50 (v : Value) (l : List Ins) (P : Nat → Ins → Prop) (pv : Value) (w : World) (hl : Inss w v l) (hn : l.length ≤ 1000000)
    (C : ∀ (W : World) (j : Nat) (x : Ins), Below w.heap.size w W → l[j]? = some x → x.okW W → Calls Tryd.prog 68 #[.int .i64 j, .agg #[.int .i64 x.op, .int .i64 x.dst, .int .i64 x.src, .int .i64 x.rc, .int .i64 x.n, .int .i64 x.to, x.iv, x.xv], pv] W (AnsN (P j x) W)) :
    Calls Tryd.prog 67 #[v, .func (.func 68) #[] #[pv]] w (Ans (∀ (i : Nat) (x : Ins), l[i]? = some x → P i x) w) := by
  have HL := hid hl
  obtain ⟨a, cap, rfl, hr⟩ := hl.at
  have HR := hid hr
  replace C := hid C
  clear hr hl
  generalize hln : l.length = n at *
  replace hln := hid hln
  go_enter Tryd.func67, Tryd.ntmps67
  go_wp2_with fail
  go_loopw [9] (fun t wr => ∃ j : Nat, t = .int .i64 j ∧ j ≤ n ∧ Hid (∀ (i : Nat) (x : Ins), i < j → l[i]? = some x → P i x) ∧ Hid (Below w.heap.size w wr)) (fun t _ => n - (intOf t).toNat)
  case atStart => exact ⟨0, rfl, by omega, hid (fun i x h => by omega), Below.refl _ _⟩
  case round =>
    obtain ⟨j, rfl, hj, E, B⟩ := hrel
    by_cases hjn : j < n
    · obtain ⟨x, b, off, hx, rfl, hb, hr, ok⟩ := HR.out j hjn
      replace hr := fun k u hk => (B.out.cell (p := ⟨b, off + j * 8 + k, none⟩) hb).trans (hr k u hk)
      have c0 := hr 0 _ rfl; have c1 := hr 1 _ rfl; have c2 := hr 2 _ rfl; have c3 := hr 3 _ rfl; have c4 := hr 4 _ rfl; have c5 := hr 5 _ rfl; have c6 := hr 6 _ rfl; have c7 := hr 7 _ rfl
      simp only [Nat.add_zero, Nat.mul_one] at c0
      have K2 := hid (B.out.alloc B.out.size (.cells #[.int .i64 x.op, .int .i64 x.dst, .int .i64 x.src, .int .i64 x.rc, .int .i64 x.n, .int .i64 x.to, x.iv, x.xv] 58))
      replace C := hid (fun W h => C.out W j x h hx)
      have ok2 := hid (fun W (h : Below w.heap.size w W) => Ins.kept ok h)
      have hx' := hid hx
      obtain ⟨a1, p1, e1⟩ := ok.2.1.form
      obtain ⟨a2, p2, e2⟩ := ok.2.2.form
      simp only [e1, e2] at c6 c7 C K2
      clear e1 e2
      clear hr HR HL ok B hx
      go_wp2_with (go_at_call 68; refine Calls.mono (C.out _ K2.out (ok2.out _ K2.out)) ?_; rintro e w' ⟨q, rfl, hq, hb'⟩; replace hq := hid hq; cases q)
      · go_roundw
        case rel =>
          refine ⟨j + 1, by go_num, by omega, hid (fun i y hi hy => ?_), bover K2.out hb'⟩
          by_cases hij : i < j
          · exact E.out i y hij hy
          · obtain rfl : i = j := by omega
            rw [hx'.out] at hy
            cases hy
            simpa using hq.out
        case measure => simp [intOf]; omega
      · go_ret
        have h1 : ¬ P j x := by simpa using hq.out
        exact exNo (fun h => h1 (h j x hx'.out)) (bover K2.out hb')
    · clear HR C HL
      go_wp2
      go_ret
      refine exYes (fun i x hx => E.out i x ?_ hx) B.out
      have := (List.getElem?_eq_some_iff.1 hx).1
      have := hln.out
      omega

end Go.Proofs.YtdpbapoahfggeaaDoor
