/- Contracts of code's Inside and the document's Inside: the first section in which a place stands. -/
import Derived.Test.YtdpbapoahfggeaaDoorGoods
namespace Go.Proofs.YtdpbapoahfggeaaDoor
open Go.ChangeShapes Go.WideShapes Go.ChangeAt Go.RowKit
set_option linter.unusedVariables false
set_option linter.unusedSimpArgs false

def hitS (th pl : Int) (s : Sec) : Bool := s.th == th && (decide (s.fr < pl) && decide (pl ≤ s.to))
def insideF (th pl : Int) : List Sec → Int → Int
  | [], _ => -1
  | s :: l, i => if hitS th pl s then i else insideF th pl l (i + 1)
def inside (secs : List Sec) (th pl : Int) : Int := insideF th pl secs 0

theorem insideF_yes {th pl : Int} {s : Sec} (l : List Sec) (i : Int) (h : hitS th pl s = true) : insideF th pl (s :: l) i = i := by unfold insideF; rw [if_pos h]
theorem insideF_no {th pl : Int} {s : Sec} (l : List Sec) (i : Int) (h : hitS th pl s = false) : insideF th pl (s :: l) i = insideF th pl l (i + 1) := by
  show (if _ then _ else _) = _
  rw [if_neg (by rw [h]; simp)]
theorem retI {k : IntKind} {a b : Int} (h : a = b) : Ending.returned (.int k a) = .returned (.int k b) := by rw [h]
theorem secs_at {w : World} {v : Value} {l : List Sec} (h : Secs w v l) : ∃ a cap, v = .slice a l.length cap ∧ ∀ j, j < l.length → ∃ s b off, l.drop j = s :: l.drop (j + 1) ∧ l[j]? = some s ∧ a = some ⟨b, off, none⟩ ∧ b < w.heap.size ∧ w.cell? ⟨b, off + j * 3, none⟩ = some (.int .i64 s.th) ∧ w.cell? ⟨b, off + j * 3 + 1, none⟩ = some (.int .i64 s.fr) ∧ w.cell? ⟨b, off + j * 3 + 2, none⟩ = some (.int .i64 s.to) ∧ s.okW w := by
  obtain ⟨a, cap, h1, h2, h3, h4, h5, h6⟩ := h
  refine ⟨a, cap, h1, fun j hj => ?_⟩
  have hs : l[j]? = some l[j] := by simp [hj]
  obtain ⟨b, off, e, hlt, hr, ho⟩ := h6 j _ hs
  exact ⟨_, b, off, List.drop_eq_getElem_cons hj, hs, e, hlt, hr 0 _ rfl, hr 1 _ rfl, hr 2 _ rfl, ho⟩

set_option maxHeartbeats 400000 in
theorem in1_any (s : Sec) (th pl : Int) (b1 b2 : Nat) (w : World) (h1 : w.cell? ⟨b1, 0, none⟩ = some (.int .i64 th)) (h2 : w.cell? ⟨b2, 0, none⟩ = some (.int .i64 pl)) :
    Calls Tryd.prog 87 #[.agg #[.int .i64 s.th, .int .i64 s.fr, .int .i64 s.to], .pointer (some ⟨b1, 0, none⟩), .pointer (some ⟨b2, 0, none⟩)] w fun e w' => e = .returned (.bool (hitS th pl s)) ∧ Below w.heap.size w w' := by
  have g1 : b1 < w.heap.size := World.block_lt_of_cell? w _ h1
  have g2 : b2 < w.heap.size := World.block_lt_of_cell? w _ h2
  go_enter Tryd.func87, Tryd.ntmps87
  go_wp2
  all_goals
    go_ret
    refine ⟨retB ?_, (Below.refl _ _).alloc (Nat.le_refl _) _⟩
    first | (simp [hitS, *]; done) | (simp [hitS, *]; intros; omega)

set_option maxRecDepth 100000 in
set_option maxHeartbeats 1000000 in
theorem indexIn_any (v : Value) (l : List Sec) (th pl : Int) (b1 b2 : Nat) (w : World) (hl : Secs w v l) (hn : l.length ≤ 1000000) (h1 : w.cell? ⟨b1, 0, none⟩ = some (.int .i64 th)) (h2 : w.cell? ⟨b2, 0, none⟩ = some (.int .i64 pl)) :
    Calls Tryd.prog 66 #[v, .func (.func 87) #[] #[.pointer (some ⟨b1, 0, none⟩), .pointer (some ⟨b2, 0, none⟩)]] w fun e w' => e = .returned (.int .i64 (inside l th pl)) ∧ Below w.heap.size w w' := by
  obtain ⟨a, cap, rfl, hr⟩ := secs_at hl
  have HR := hid hr
  have g1 : b1 < w.heap.size := World.block_lt_of_cell? w _ h1
  have g2 : b2 < w.heap.size := World.block_lt_of_cell? w _ h2
  have C := hid (fun (s : Sec) W (h : Below w.heap.size w W) => in1_any s th pl b1 b2 W (by rw [h.cell (p := ⟨b1, 0, none⟩) g1]; exact h1) (by rw [h.cell (p := ⟨b2, 0, none⟩) g2]; exact h2))
  clear hr hl h1 h2 g1 g2
  generalize hln : l.length = n at *
  replace hln := hid hln
  go_enter Tryd.func66, Tryd.ntmps66
  go_wp2_with fail
  go_loopw [8] (fun t wr => ∃ j : Nat, t = .int .i64 j ∧ j ≤ n ∧ Hid (insideF th pl (l.drop j) j = inside l th pl) ∧ Hid (Below w.heap.size w wr)) (fun t _ => n - (intOf t).toNat)
  case atStart => exact ⟨0, rfl, by omega, rfl, Below.refl _ _⟩
  case round =>
    obtain ⟨j, rfl, hj, E, B⟩ := hrel
    by_cases hjn : j < n
    · obtain ⟨s, b, off, hd, hs, rfl, hb, c0, c1, c2, ok⟩ := HR.out j hjn
      rw [← B.out.cell hb] at c0 c1 c2
      rw [hd] at E
      clear hd hs ok HR
      have D := hid (C.out s wr B.out)
      clear C
      cases hh : hitS th pl s
      · have E2 := hid (E.out)
        rw [insideF_no _ _ hh] at E2
        rw [hh] at D
        clear hh E
        go_wp2_with (go_at_call 87; refine Calls.mono D.out ?_; rintro e w' ⟨rfl, hb'⟩)
        go_roundw
        case rel => exact ⟨j + 1, by go_num, by omega, E2, bover B.out hb'⟩
        case measure => simp [intOf]; omega
      · have E2 := hid (E.out)
        rw [insideF_yes _ _ hh] at E2
        rw [hh] at D
        clear hh E
        go_wp2_with (go_at_call 87; refine Calls.mono D.out ?_; rintro e w' ⟨rfl, hb'⟩)
        go_ret
        exact ⟨retI E2.out, bover B.out hb'⟩
    · have E2 : Hid (-1 = inside l th pl) := hid (by rw [← E.out, List.drop_of_length_le (by rw [hln.out]; omega)]; rfl)
      clear E HR C
      go_wp2
      go_ret
      exact ⟨retI E2.out, B.out⟩

theorem inside_ge {th pl : Int} (l : List Sec) (i : Int) (h : 0 ≤ i) : insideF th pl l i = -1 ∨ (i ≤ insideF th pl l i ∧ insideF th pl l i < i + l.length) := by
  induction l generalizing i with
  | nil => left; rfl
  | cons s l ih =>
    cases hh : hitS th pl s
    · rw [insideF_no _ _ hh]
      rcases ih (i + 1) (by omega) with h1 | h1
      · exact .inl h1
      · right
        simp only [List.length_cons]
        omega
    · rw [insideF_yes _ _ hh]
      right
      simp only [List.length_cons]
      omega

theorem inside_bound (l : List Sec) (th pl : Int) : -1 ≤ inside l th pl ∧ inside l th pl < l.length := by
  rcases inside_ge (th := th) (pl := pl) l 0 (by omega) with h | h <;> unfold inside <;> omega

theorem new0 (w : World) (v : Value) (t : TypeId) : (w.alloc (.cells #[v] t)).cell? ⟨w.heap.size, 0, none⟩ = some v := new_cell _ _ _ _ _ rfl

set_option maxRecDepth 100000 in
set_option maxHeartbeats 1000000 in
theorem inside_any (rv gv tv ev cv : Value) (l : List Sec) (th pl : Int) (w : World) (hc : Secs w cv l) (hn : l.length ≤ 1000000) :
    Calls Tryd.prog 75 #[.agg #[rv, gv, tv, ev, cv], .int .i64 th, .int .i64 pl] w fun e w' => e = .returned (.int .i64 (inside l th pl)) ∧ Below w.heap.size w w' := by
  have B1 := (Below.refl w.heap.size w).alloc (Nat.le_refl _) (.cells #[rv, gv, tv, ev, cv] 41)
  have B2 := B1.alloc B1.size (.cells #[.int .i64 th] 3)
  have B3 := B2.alloc B2.size (.cells #[.int .i64 pl] 3)
  have K := (Below.refl _ _).alloc (Nat.le_refl ((w.alloc (.cells #[rv, gv, tv, ev, cv] 41)).alloc (.cells #[.int .i64 th] 3)).heap.size) (.cells #[.int .i64 pl] 3)
  have C := indexIn_any cv l th pl (w.heap.size + 1) (w.heap.size + 1 + 1) (((w.alloc (.cells #[rv, gv, tv, ev, cv] 41)).alloc (.cells #[.int .i64 th] 3)).alloc (.cells #[.int .i64 pl] 3)) (Secs.kept hc B3) hn
    (by rw [K.cell (by simp)]; have := new0 (w.alloc (.cells #[rv, gv, tv, ev, cv] 41)) (.int .i64 th) 3; simp only [World.size_alloc] at this; exact this)
    (by have := new0 ((w.alloc (.cells #[rv, gv, tv, ev, cv] 41)).alloc (.cells #[.int .i64 th] 3)) (.int .i64 pl) 3; simp only [World.size_alloc] at this; exact this)
  replace C := hid C
  replace B3 := hid B3
  clear hc B1 B2 K
  go_enter Tryd.func75, Tryd.ntmps75
  go_wp2_with fail
  refine Calls.mono C.out ?_
  rintro e w' ⟨rfl, hb⟩
  go_wp2
  go_ret
  exact ⟨rfl, bover B3.out hb⟩

set_option maxRecDepth 100000 in
set_option maxHeartbeats 1000000 in
theorem rinside_any (rv gv tv ev cv : Value) (l : List Sec) (th pl : Int) (w : World) (hc : Secs w cv l) (hn : l.length ≤ 1000000) :
    Calls Tryd.prog 32 #[.agg #[rv, gv, tv, ev, cv], .int .i64 th, .int .i64 pl] w fun e w' => e = .returned (.int .i64 (inside l th pl)) ∧ Below w.heap.size w w' := by
  obtain ⟨a, cap, rfl, hr⟩ := secs_at hc
  have HR := hid hr
  have B1 := hid ((Below.refl w.heap.size w).alloc (Nat.le_refl _) (.cells #[rv, gv, tv, ev, .slice a l.length cap] 41))
  clear hr hc
  generalize hln : l.length = n at *
  replace hln := hid hln
  go_enter Tryd.func32, Tryd.ntmps32
  go_wp2_with fail
  go_loopw [12] (fun t wr => ∃ j : Nat, t = .int .i64 j ∧ j ≤ n ∧ Hid (insideF th pl (l.drop j) j = inside l th pl) ∧ Hid (Below w.heap.size w wr)) (fun t _ => n - (intOf t).toNat)
  case atStart => exact ⟨0, rfl, by omega, rfl, B1⟩
  case round =>
    obtain ⟨j, rfl, hj, E, B⟩ := hrel
    by_cases hjn : j < n
    · obtain ⟨s, b, off, hd, hs, rfl, hb, c0, c1, c2, ok⟩ := HR.out j hjn
      rw [← B.out.cell hb] at c0 c1 c2
      rw [hd] at E
      have B2 := hid (B.out.alloc B.out.size (.cells #[.int .i64 s.th, .int .i64 s.fr, .int .i64 s.to] 63))
      clear hd hs ok HR B1 B
      cases h1 : (s.th == th)
      · have E2 := hid (E.out)
        rw [insideF_no _ _ (by unfold hitS; rw [h1]; rfl)] at E2
        clear E
        go_wp2
        go_roundw
        case rel => exact ⟨j + 1, by go_num, by omega, E2, B2⟩
        case measure => simp [intOf]; omega
      · by_cases h2 : s.fr < pl
        · by_cases h3 : pl ≤ s.to
          · have E2 := hid (E.out)
            rw [insideF_yes _ _ (by unfold hitS; rw [h1, decide_eq_true h2, decide_eq_true h3]; rfl)] at E2
            clear E
            go_wp2
            go_ret
            exact ⟨retI E2.out, B2.out⟩
          · have E2 := hid (E.out)
            rw [insideF_no _ _ (by unfold hitS; rw [decide_eq_false h3]; simp)] at E2
            have h3' : s.to < pl := by omega
            clear E h3
            go_wp2
            go_roundw
            case rel => exact ⟨j + 1, by go_num, by omega, E2, B2⟩
            case measure => simp [intOf]; omega
        · have E2 := hid (E.out)
          rw [insideF_no _ _ (by unfold hitS; rw [decide_eq_false h2]; simp)] at E2
          have h2' : pl ≤ s.fr := by omega
          clear E h2
          go_wp2
          go_roundw
          case rel => exact ⟨j + 1, by go_num, by omega, E2, B2⟩
          case measure => simp [intOf]; omega
    · have E2 : Hid (-1 = inside l th pl) := hid (by rw [← E.out, List.drop_of_length_le (by rw [hln.out]; omega)]; rfl)
      clear E HR B1
      go_wp2
      go_ret
      exact ⟨retI E2.out, B.out⟩

set_option maxRecDepth 100000 in
set_option maxHeartbeats 1000000 in
theorem section_any (rv gv tv ev cv sv dv mv : Value) (l : List Sec) (th pl : Int) (w : World) (hc : Secs w cv l) (hn : l.length ≤ 1000000) :
    Calls Tryd.prog 72 #[.agg #[rv, gv, tv, ev, cv, .int .i64 th, sv, dv, mv], .int .i64 pl] w fun e w' => e = .returned (.int .i64 (inside l th pl)) ∧ Below w.heap.size w w' := by
  have B1 := (Below.refl w.heap.size w).alloc (Nat.le_refl _) (.cells #[rv, gv, tv, ev, cv, .int .i64 th, sv, dv, mv] 110)
  have C := hid (inside_any rv gv tv ev cv l th pl (w.alloc (.cells #[rv, gv, tv, ev, cv, .int .i64 th, sv, dv, mv] 110)) (Secs.kept hc B1) hn)
  replace B1 := hid B1
  clear hc
  go_enter Tryd.func72, Tryd.ntmps72
  go_wp2_with fail
  refine Calls.mono C.out ?_
  rintro e w' ⟨rfl, hb⟩
  go_wp2
  go_ret
  exact ⟨rfl, bover B1.out hb⟩

end Go.Proofs.YtdpbapoahfggeaaDoor
