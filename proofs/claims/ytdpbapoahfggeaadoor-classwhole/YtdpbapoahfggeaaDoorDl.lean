/- The contract of do: a load of a field. -/
import Derived.Test.YtdpbapoahfggeaaDoorEmc
import Derived.Test.YtdpbapoahfggeaaDoorDo
import Derived.Test.YtdpbapoahfggeaaDoorM07
namespace Go.Proofs.YtdpbapoahfggeaaDoor
open Go.ChangeShapes Go.WideShapes Go.ChangeAt Go.RowKit
set_option linter.unusedVariables false
set_option linter.unusedSimpArgs false
attribute [local go_sem] Oper.semAt_some

theorem bring_other {R : List (List Nat)} {r j m r' j' : Nat} (hj : j < (R.getD r []).length) (hne : r' ≠ r) : gR (bringR R r j m) r' j' = gR R r' j' ∧ ((bringR R r j m).getD r' []).length = (R.getD r' []).length :=
  ⟨by unfold bringR; rw [gR_set hj, if_neg (fun q => hne q.1)], by unfold bringR; exact row_set_len _ _ _ _ _⟩
theorem own0 {base top sb : Nat} (h0 : 0 < base) (h1 : 0 < sb) : ¬ Own base top sb 0 := fun q => by rcases q with q | q <;> omega
/-- What is known behind so many rounds. -/
structure InvL (c : Cd) (i : Nat) (t : Bd) (x : Ins) (R Rk : List (List Nat)) (L : List Nat) (f : Nat → Prop) : Prop where
  shape : shp Rk = shp R
  le : LeR R Rk
  least : ∀ T, shp T = shp R → Cl c i t T x → LeR R T → LeR Rk T
  done : Rk = R → ∀ q ∈ L, f q
theorem InvL.low {c : Cd} {i : Nat} {t : Bd} {x : Ins} {R Rk : List (List Nat)} {L : List Nat} {f : Nat → Prop} (h : InvL c i t x R Rk L f) (k : Low c R) {j : Nat} (hb : c.threads[i]? = some t) (hx : t.code[j]? = some x) : Low c Rk :=
  ⟨h.shape.trans k.1, fun T hT hC => h.least T (hT.trans k.1.symm) (hC i t hb j x hx) (k.2 T hT hC)⟩
theorem InvL.start (c : Cd) (i : Nat) (t : Bd) (x : Ins) (R : List (List Nat)) (f : Nat → Prop) : InvL c i t x R R [] f := ⟨rfl, LeR.refl _, fun _ _ _ h => h, fun _ q hq => by cases hq⟩
theorem take_snoc' {α : Type} {l : List α} {k : Nat} {x : α} (h : l[k]? = some x) : l.take (k + 1) = l.take k ++ [x] := by rw [List.take_add_one, h]; rfl
/-- One more thing brought. -/
theorem InvL.brought {c : Cd} {i : Nat} {t : Bd} {x : Ins} {R Rk : List (List Nat)} {L : List Nat} {f : Nat → Prop} {r j m q : Nat} (h : InvL c i t x R Rk L f) (hj : j < (Rk.getD r []).length) (h1 : ∀ T, shp T = shp R → Cl c i t T x → LeR R T → LeR Rk T → Sub m (gR T r j)) (h2 : Rk = R → Sub m (gR R r j) → f q) :
    InvL c i t x R (bringR Rk r j m) (L ++ [q]) f := by
  refine ⟨(shp_bring _ _ _ _).trans h.shape, h.le.trans (le_bring hj), fun T hs hc hl => bring_le hj (h.least T hs hc hl) (h1 T hs hc hl (h.least T hs hc hl)), fun e => ?_⟩
  have e1 : Rk = R := LeR.anti h.shape (by rw [← e]; exact le_bring hj) h.le
  intro a ha
  rcases List.mem_append.1 ha with ha | ha
  · exact h.done e1 a ha
  · have : a = q := by simpa using ha
    subst this
    refine h2 e1 ?_
    have := Sub.of_or_eq ((bring_eq hj).1 (e.trans e1.symm))
    rwa [e1] at this
theorem InvL.skipped {c : Cd} {i : Nat} {t : Bd} {x : Ins} {R Rk : List (List Nat)} {L : List Nat} {f : Nat → Prop} {q : Nat} (h : InvL c i t x R Rk L f) (h2 : Rk = R → f q) : InvL c i t x R Rk (L ++ [q]) f :=
  ⟨h.shape, h.le, h.least, fun e a ha => by
    rcases List.mem_append.1 ha with ha | ha
    · exact h.done e a ha
    · have : a = q := by simpa using ha
      subst this
      exact h2 e⟩
/-- Has anything come? -/
def flg (g : Bool) (Rk R : List (List Nat)) : Bool := g || decide (Rk ≠ R)
theorem flg_self (g : Bool) (R : List (List Nat)) : flg g R R = g := by simp [flg]
theorem grew_flag {g : Bool} {R Rk R' : List (List Nat)} (hs : shp Rk = shp R) (hs' : shp R' = shp R) (h1 : LeR R Rk) (h2 : LeR Rk R') : (g || decide (Rk ≠ R) || decide (R' ≠ Rk)) = (g || decide (R' ≠ R)) := by
  by_cases e : R' = R
  · have : Rk = R := LeR.anti hs (by rw [← e]; exact h2) h1
    subst this
    simp [e]
  · by_cases e2 : R' = Rk
    · subst e2; simp
    · simp [e, e2]

set_option maxRecDepth 100000 in
set_option maxHeartbeats 2000000 in
theorem do3 {W : World} {sb base top : Nat} {c : Cd} {v0 v1 v2 : Value} {g : Bool} {R : List (List Nat)} {V : Nat → Value} {B : Nat → Nat} {t : Bd} {s : Stp} (h : Fed W sb base top c v0 v1 v2 g R V B t s) (hop : s.x.op = 3) (hTab : Tab W) (hb0 : 0 < base) (hs0 : 0 < sb) :
    Calls Tryd.prog 25 #[.pointer (some ⟨sb, 0, none⟩), .agg s.cells.toArray] W fun e W' => e = .returned (.tuple #[]) ∧ ∃ R', Sol W' sb base top c v0 v1 v2 (g || decide (R' ≠ R)) R' V B ∧ Grew c s.i t s.x R R' ∧ Touch (Own base top sb) W W' := by
  obtain ⟨j, hx⟩ := h.co
  have F := ins_facts h.good h.th hx
  have hti := h.ti
  have hnm := h.nums
  obtain ⟨hul, hu1⟩ := h.uses
  have hus := h.us
  have hU := h.low.allU h.good
  obtain ⟨d, hd, hdl⟩ := F.d (hasD_of (by simp [hop]))
  have hrow : d < (R.getD s.i []).length := by rw [row_at h.low, shape_slots c h.th]; exact hdl
  have htg : meansL (slotOf t s.x) = true := by have := h.tg; rw [tgtM, if_pos (hasD_of (by simp [hop]))] at this; exact this
  obtain ⟨e, he, hel⟩ := F.s (by rw [hop]; rfl)
  obtain ⟨r, n, hr, hrl, hn, hnl⟩ := F.f (.inl hop)
  have hrow2 : e < (R.getD s.i []).length := by rw [row_at h.low, shape_slots c h.th]; exact hel
  have hbits := h.low.bits h.good s.i e
  have hbt : base < top := by have := (h.sol.sets.at hrow); obtain ⟨_, _, _, a, b, _⟩ := this; omega
  have HO3 := hid (fun (T : List (List Nat)) (hC : Cl c s.i t T s.x) k hk hb => (by
    have := hC.o3 hop htg k hk (by rw [he, Int.toNat_natCast]; exact hb)
    rw [hd, hn, Int.toNat_natCast, Int.toNat_natCast] at this
    exact this : Sub (gR T (c.threads.length + 1 + k) n) (gR T s.i d)))
  have HU := hid (fun (Rk : List (List Nat)) (L : List Nat) (f : Nat → Prop) (hI : InvL c s.i t s.x R Rk L f) => ((hI.low h.low h.th hx).allU h.good : AllU Rk))
  obtain ⟨fa, fc, e2, _⟩ := h.sol.sets.o2
  subst e2
  have HCl := hid (fun (hS : ∀ q ∈ bitsL (gR R s.i e), Sub (gR R (c.threads.length + 1 + q) n) (gR R s.i d)) => (⟨fun a => by omega, fun a => by omega, fun _ _ k hk hb => by
    rw [hd, hn, Int.toNat_natCast, Int.toNat_natCast]
    rw [he, Int.toNat_natCast] at hb
    exact hS k (mem_bits.2 ⟨by have := h.good.l4; omega, hb⟩), fun a => by omega, fun a => by omega, fun a => by omega⟩ : Cl c s.i t R s.x))
  have c5 := h.sol.box.cell 5 (v := v0) rfl
  obtain ⟨oa, oc, e0, ho⟩ := h.sol.sets.o0
  obtain ⟨ob, ooff, e1, o2, o3, o4, o5, o6⟩ := ho s.i hti
  subst e1
  obtain ⟨cp, k1, k2, k3, k4, k5⟩ := h.sol.sets.at hrow
  rw [k1] at o6
  have hsb := h.sol.box.lt
  have Sl := hid h.sol
  obtain ⟨⟨op, dst, src, rc, nn, tt, its, iv, idx, xv⟩, i, l, v⟩ := s
  simp only at *
  subst hop hd he hr hn
  clear h hx F htg ho
  subst e0
  generalize hrl : (R.getD i []).length = rl at *
  have D := DoW.start (row := .slice (some ⟨B i, 0, none⟩) rl cp) (s := ⟨⟨3, (d : Int), (e : Int), (r : Int), (n : Int), tt, its, iv, idx, xv⟩, i, l, v⟩) Sl.out hnm
  simp only [Stp.cells] at D ⊢
  replace D := hid D
  replace hU := hid hU
  replace hrl := hid hrl
  clear k1 k2 k3 k4 k5 o2 o3 o5
  refine (callsIn_wide (n := 3)).1 ?_
  refine callsIn_of_wp_marks Tryd.func25 rfl trivial ?_ rfl
  refine wpIn_wide.2 ?_
  simp only [Tryd.ntmps25, List.size_toArray, List.length_cons, List.length_nil, Nat.reduceAdd, Nat.reduceSub, Array.replicate_succ, Array.replicate_zero, List.push_toArray, List.append_toArray, List.nil_append, List.cons_append]
  go_wp2_with fail
  have BX := below_two W (.cells #[.pointer (some ⟨sb, 0, none⟩)] 85) (.cells #[.int .i64 3, .int .i64 (d : Int), .int .i64 (e : Int), .int .i64 (r : Int), .int .i64 (n : Int), .int .i64 tt, iv, xv, .int .i64 (i : Int), v] 73)
  have hsX := Nat.lt_of_lt_of_le hsb BX.size
  have hoX := Nat.lt_of_lt_of_le o4 BX.size
  rw [← BX.cell hsb] at c5
  rw [← BX.cell o4] at o6
  have x0 := ((VarAt.new W [.pointer (some ⟨sb, 0, none⟩)] 85).past (.cells #[.int .i64 3, .int .i64 (d : Int), .int .i64 (e : Int), .int .i64 (r : Int), .int .i64 (n : Int), .int .i64 tt, iv, xv, .int .i64 (i : Int), v] 73)).cell 0 (v := .pointer (some ⟨sb, 0, none⟩)) rfl
  have x8 := (VarAt.new (W.alloc (.cells #[.pointer (some ⟨sb, 0, none⟩)] 85)) [.int .i64 3, .int .i64 (d : Int), .int .i64 (e : Int), .int .i64 (r : Int), .int .i64 (n : Int), .int .i64 tt, iv, xv, .int .i64 (i : Int), v] 73).cell 8 (v := .int .i64 (i : Int)) rfl
  simp only [World.size_alloc] at x8
  have hXs : ((W.alloc (.cells #[.pointer (some ⟨sb, 0, none⟩)] 85)).alloc (.cells #[.int .i64 3, .int .i64 (d : Int), .int .i64 (e : Int), .int .i64 (r : Int), .int .i64 (n : Int), .int .i64 tt, iv, xv, .int .i64 (i : Int), v] 73)).heap.size = W.heap.size + 2 := by simp
  generalize hX : (W.alloc (.cells #[.pointer (some ⟨sb, 0, none⟩)] 85)).alloc (.cells #[.int .i64 3, .int .i64 (d : Int), .int .i64 (e : Int), .int .i64 (r : Int), .int .i64 (n : Int), .int .i64 tt, iv, xv, .int .i64 (i : Int), v] 73) = X at *
  clear hX BX
  have q2 : W.heap.size < X.heap.size := by omega
  have q3 : W.heap.size + 1 < X.heap.size := by omega
  go_region_held3 (fun w' => w'.cell? ⟨W.heap.size, 0, none⟩ = some (.pointer (some ⟨sb, 0, none⟩)) ∧ w'.cell? ⟨W.heap.size + 1, 8, none⟩ = some (.int .i64 (i : Int)) ∧ w'.cell? ⟨sb, 5, none⟩ = some (.slice (some ⟨ob, ooff, none⟩) c.threads.length oc) ∧ w'.cell? ⟨ob, ooff + i, none⟩ = some (.slice (some ⟨B i, 0, none⟩) rl cp)) (go_keep) (fail)
  rename_i hHeld
  clear hHeld
  generalize hY : (X.alloc (.cells #[.slice (some ⟨B i, 0, none⟩) rl cp] 27)).drew = Y at *
  clear hY q2 q3 x0 x8 hoX hsX c5 o6 o4 hXs
  obtain ⟨y0, y30, y31, y32, y33, y34, y35, y36, y37, y38, y39, y4⟩ := cells_of D.out
  have r2 := D.out.b2.lt
  have r3 := D.out.b3.lt
  have r4 := D.out.b4.lt
  simp only at y30 y31 y32 y33 y34 y35 y36 y37 y38 y39
  have ke := D.out.rowAt (r := i) (j := e) (by rw [hrl.out]; exact hrow2)
  go_wp2_with (go_at_call 18; refine Calls.mono (each_any _ _) ?_; rintro _ w' ⟨rfl, rfl⟩)
  clear y0 y30 y31 y32 y33 y34 y35 y36 y37 y38 y39 y4 ke
  have hsu : gR R i e < 18446744073709551616 := by have := hU.out i e; rw [p64] at this; exact this
  have BZ := (Below.refl Y.heap.size Y).alloc (Nat.le_refl _) (.cells #[.int .u64 ((gR R i e : Nat) : Int)] 23)
  have DZ := D.out.kept BZ
  have ha := DZ.hi
  have hT0 := own0 (top := top) hb0 hs0
  have TZ : Tab (Y.alloc (.cells #[.int .u64 ((gR R i e : Nat) : Int)] 23)) := hTab.touch DZ.tch hT0
  have hS := fun n' => each1_seq (Own base top sb) hT0 (gR R i e) hsu Y.heap.size _ (new_cell Y #[.int .u64 ((gR R i e : Nat) : Int)] 23 0 _ rfl) TZ n'
  replace hS := hid hS
  generalize hset : gR R i e = set at *
  replace hset := hid hset
  have sZ : (Y.alloc (.cells #[.int .u64 (set : Int)] 23)).heap.size = Y.heap.size + 1 := by simp
  generalize hZ : Y.alloc (.cells #[.int .u64 (set : Int)] 23) = Z at *
  clear hZ D BZ
  replace DZ := hid DZ
  refine (wpIn_wide (n := 3)).1 ?_
  refine wpIn_range3 rfl rfl (gf := 27) (lb := #[.pointer (some ⟨Y.heap.size, 0, none⟩)]) rfl trivial (enters_of Tryd.func27 (by kernel_rfl) rfl) hS.out ⟨fun q => by rcases q with q | q <;> omega, fun q => by rcases q with q | q <;> omega⟩ (fun k args W h => by obtain ⟨x, _, rfl⟩ := h; rfl)
    (fun k X => ∃ Rk, DoW W sb base top c (.slice (some ⟨ob, ooff, none⟩) c.threads.length oc) v1 (.slice fa c.sites.length fc) (flg g Rk R) Rk V B ⟨⟨3, d, e, r, n, tt, its, iv, idx, xv⟩, i, l, v⟩ (.slice (some ⟨B i, 0, none⟩) rl cp) X ∧ InvL c i t ⟨3, d, e, r, n, tt, its, iv, idx, xv⟩ R Rk ((bitsL set).take k) (fun q => Sub (gR R (c.threads.length + 1 + q) n) (gR R i d))) (fun _ _ => False) ?hI (fun _ _ _ _ h _ => h) ?h0
    (fun k a' X => ∃ q : Nat, (bitsL set)[k]? = some q ∧ a' = { tmps := (.pointer (some ⟨sb, 0, none⟩) :: .agg #[.int .i64 3, .int .i64 (d : Int), .int .i64 (e : Int), .int .i64 (r : Int), .int .i64 (n : Int), .int .i64 tt, iv, xv, .int .i64 (i : Int), v] :: .pointer (some ⟨W.heap.size, 0, none⟩) :: .pointer (some ⟨W.heap.size + 1, 0, none⟩) :: .pointer (some ⟨W.heap.size + 2, 0, none⟩) :: .int .i64 (q : Int) :: undef :: undef :: .pointer (some ⟨sb, 0, none⟩) :: .pointer (some ⟨sb, 0, none⟩) :: .pointer (some ⟨sb, 5, none⟩) :: .pointer (some ⟨sb, 5, none⟩) :: .slice (some ⟨ob, ooff, none⟩) c.threads.length oc :: .pointer (some ⟨W.heap.size + 1, 8, none⟩) :: .int .i64 (i : Int) :: .pointer (some ⟨ob, ooff + i, none⟩) :: .slice (some ⟨B i, 0, none⟩) rl cp :: .pointer (some ⟨W.heap.size + 1, 0, none⟩) :: .pointer (some ⟨W.heap.size + 1, 0, none⟩) :: .int .i64 3 :: .bool false :: .bool false :: undef :: undef :: undef :: undef :: undef :: undef :: undef :: undef :: undef :: undef :: .bool false :: .bool false :: undef :: undef :: undef :: undef :: undef :: undef :: undef :: undef :: undef :: undef :: undef :: undef :: undef :: undef :: undef :: undef :: undef :: .bool false :: .bool false :: undef :: undef :: undef :: undef :: undef :: undef :: undef :: undef :: undef :: undef :: undef :: undef :: undef :: undef :: .bool true :: .bool true :: .slice (some ⟨B i, 0, none⟩) rl cp :: .pointer (some ⟨W.heap.size + 1, 0, none⟩) :: .pointer (some ⟨W.heap.size + 1, 2, none⟩) :: .int .i64 (e : Int) :: .pointer (some ⟨B i, e, none⟩) :: .int .u64 (set : Int) :: .func (.func 27) #[] #[.pointer (some ⟨Y.heap.size, 0, none⟩)] :: .int .i64 (q : Int) :: undef :: undef :: undef :: undef :: undef :: undef :: undef :: undef :: undef :: undef :: undef :: undef :: undef :: undef :: undef :: undef :: undef :: undef :: undef :: undef :: undef :: undef :: undef :: undef :: undef :: undef :: undef :: undef :: undef :: undef :: undef :: undef :: undef :: undef :: undef :: undef :: undef :: undef :: undef :: undef :: undef :: undef :: undef :: undef :: undef :: undef :: undef :: undef :: undef :: undef :: undef :: undef :: undef :: undef :: undef :: undef :: undef :: undef :: undef :: undef :: undef :: undef :: undef :: undef :: undef :: undef :: undef :: undef :: undef :: undef :: undef :: undef :: undef :: undef :: undef :: undef :: undef :: undef :: undef :: undef :: undef :: []).toArray, defers := [] }) ?hA ?assign ?body ?done ?stop
  case hI =>
    rintro k X X' hz ⟨Rk, h1, h2⟩ ht
    have := DZ.out.b4.lt
    exact ⟨Rk, h1.aside hsb ht (fun b hb q => by rcases q with q | q <;> omega), h2⟩
  case h0 =>
    intro X hb hz
    exact ⟨R, by rw [flg_self]; exact DZ.out.kept hb, InvL.start _ _ _ _ _ _⟩
  case hA => exact fun k a' X X' h _ _ => h
  case assign =>
    rintro lp k args X K ⟨q, hq, rfl⟩ hsz hK
    clear HO3 HCl HU hS hbits
    gi_wp2
    exact hK _ _ (Below.refl _ _) ⟨q, hq, rfl⟩
  case body =>
    rintro lp k a' X ⟨Rk, hD, hI⟩ hk ⟨q, hq, rfl⟩ hsz
    obtain ⟨hq64, hqb⟩ := bits_lt hq
    have hqn := hbits q hqb
    obtain ⟨fa', fc', ef, hf⟩ := hD.sol.sets.o2
    obtain ⟨rfl, _, rfl⟩ := Value.slice.inj ef
    obtain ⟨fb, foff, rfl, f1, f2, f3, f4, f5⟩ := hf q hqn
    have c7 := hD.sol.box.cell 7 (v := .slice (some ⟨fb, foff, none⟩) c.sites.length fc) rfl
    obtain ⟨y0, y30, y31, y32, y33, y34, y35, y36, y37, y38, y39, y4⟩ := cells_of hD
    simp only at y30 y31 y32 y33 y34 y35 y36 y37 y38 y39
    have tk := take_snoc' hq
    have hUk := HU.out _ _ _ hI
    have hrk : d < (Rk.getD i []).length := by rw [row_len, hI.shape, ← row_len, hrl.out]; exact hrow
    have hne : c.threads.length + 1 + q ≠ i := by omega
    by_cases hlt : n < (Rk.getD (c.threads.length + 1 + q) []).length
    · obtain ⟨cp2, k1, k2, k3, k4, k5⟩ := hD.sol.sets.at hlt
      dsimp only at f5
      rw [k1] at f5
      have C := hid (fun X' h => bringS_any (sb := sb) (base := base) (top := top) (c := c) (v0 := .slice (some ⟨ob, ooff, none⟩) c.threads.length oc) (v1 := v1) (v2 := .slice (some ⟨fb, foff, none⟩) c.sites.length fc) (g := g || decide (Rk ≠ R)) (V := V) (B := B) i d (gR Rk (c.threads.length + 1 + q) n) X' h hUk hrk (hUk _ _))
      have DD := hid hD.drew
      have hIN := hid (hI.brought (r := i) (j := d) (m := gR Rk (c.threads.length + 1 + q) n) (q := q) hrk (fun T hs hC hl hl2 => (hl2 _ _).trans (HO3.out T hC q hqn (hl i e q (by rw [hset.out]; exact hqb)))) (fun e1 h => by rw [e1] at h; exact h))
      rw [← tk] at hIN
      have FL := hid (grew_flag (g := g) hI.shape ((shp_bring Rk i d (gR Rk (c.threads.length + 1 + q) n)).trans hI.shape) hI.le (le_bring hrk))
      have BO := hid (fun m => bring_other (m := m) (j' := n) hrk hne)
      have sx : Hid (X.drew.cell? ⟨W.heap.size, 0, none⟩ = some (.pointer (some ⟨sb, 0, none⟩)) ∧ X.drew.cell? ⟨W.heap.size + 1, 1, none⟩ = some (.int .i64 (d : Int)) ∧ X.drew.cell? ⟨W.heap.size + 1, 4, none⟩ = some (.int .i64 (n : Int)) ∧ X.drew.cell? ⟨W.heap.size + 2, 0, none⟩ = some (.slice (some ⟨B i, 0, none⟩) rl cp) ∧ X.drew.cell? ⟨B (c.threads.length + 1 + q), n, none⟩ = some (.int .u64 ((gR Rk (c.threads.length + 1 + q) n : Nat) : Int))) := hid ⟨DD.out.b2.cell 0 rfl, DD.out.b3.cell 1 rfl, DD.out.b3.cell 4 rfl, DD.out.b4.cell 0 rfl, DD.out.rowAt hlt⟩
      have SZ := hid (fun X2 (h : DoW W sb base top c (.slice (some ⟨ob, ooff, none⟩) c.threads.length oc) v1 (.slice (some ⟨fb, foff, none⟩) c.sites.length fc) (g || decide (Rk ≠ R) || decide (bringR Rk i d (gR Rk (c.threads.length + 1 + q) n) ≠ Rk)) (bringR Rk i d (gR Rk (c.threads.length + 1 + q) n)) V B ⟨⟨3, d, e, r, n, tt, its, iv, idx, xv⟩, i, l, v⟩ (.slice (some ⟨B i, 0, none⟩) rl cp) X2) => (by
        have := h.rowAt (r := c.threads.length + 1 + q) (j := n) (by rw [(BO.out _).2]; exact hlt)
        rw [(BO.out _).1] at this
        exact ⟨h.b2.cell 0 rfl, h.b3.cell 1 rfl, h.b3.cell 4 rfl, h.b4.cell 0 rfl, this⟩ : X2.cell? ⟨W.heap.size, 0, none⟩ = some (.pointer (some ⟨sb, 0, none⟩)) ∧ X2.cell? ⟨W.heap.size + 1, 1, none⟩ = some (.int .i64 (d : Int)) ∧ X2.cell? ⟨W.heap.size + 1, 4, none⟩ = some (.int .i64 (n : Int)) ∧ X2.cell? ⟨W.heap.size + 2, 0, none⟩ = some (.slice (some ⟨B i, 0, none⟩) rl cp) ∧ X2.cell? ⟨B (c.threads.length + 1 + q), n, none⟩ = some (.int .u64 ((gR Rk (c.threads.length + 1 + q) n : Nat) : Int))))
      have hlt' : (n : Int) < ((Rk.getD (c.threads.length + 1 + q) []).length : Int) := by omega
      generalize hmm : gR Rk (c.threads.length + 1 + q) n = mm at *
      generalize hfl : (Rk.getD (c.threads.length + 1 + q) []).length = fl at *
      have h63 : fl ≤ maxLen ∨ True := .inr trivial
      replace hmm := hid hmm
      replace hfl := hid hfl
      replace hI := hid hI
      replace hD := hid hD
      replace hus := hid hus
      clear HO3 HCl HU hS hbits k1 k2 k3 k4 k5 f1 f2 f3 f4 tk hUk BO h63 hf ef
      gi_wp2_with fail
      clear c7 y0 y30 y31 y32 y33 y34 y35 y36 y37 y38 y39 y4 f5
      refine wpIn_calm ?_
      refine wpIn_round_held (S := fun (w' : World) => w'.cell? ⟨W.heap.size, 0, none⟩ = some (.pointer (some ⟨sb, 0, none⟩)) ∧ w'.cell? ⟨W.heap.size + 1, 1, none⟩ = some (.int .i64 (d : Int)) ∧ w'.cell? ⟨W.heap.size + 1, 4, none⟩ = some (.int .i64 (n : Int)) ∧ w'.cell? ⟨W.heap.size + 2, 0, none⟩ = some (.slice (some ⟨B i, 0, none⟩) rl cp) ∧ w'.cell? ⟨B (c.threads.length + 1 + q), n, none⟩ = some (.int .u64 (mm : Int))) (by kernel_rfl) (nd_of _ (by kernel_rfl)) (fun ⟨_, _, h⟩ => h) sx.out (fun hHeld => ?_)
      refine wpAnyH_take (i := 0) (oi := { dst := some 91, op := Go.Op.load 85 (Go.Operand.tmp 2), type := 85, pos := "solver.go:64", after := #[], guard := none }) (v := ?_) rfl (by kernel_rfl) (by kernel_rfl) (by kernel_rfl) (fun _ _ _ h => h) (Or.inl ⟨by rfl, ?_⟩) hHeld ?_
      rotate_left
      · intro w0 hSw; (try dsimp only at hSw); go_simp; (try with_reducible rfl)
      try simp only [Act.put, List.setIfInBounds_toArray, List.set_cons_zero, List.set_cons_succ]
      refine wpAnyH_take (i := 1) (oi := { dst := some 92, op := Go.Op.move (Go.Operand.tmp 6), type := 27, pos := "solver.go:64", after := #[], guard := none }) (v := ?_) rfl (by kernel_rfl) (by kernel_rfl) (by kernel_rfl) (fun _ _ _ h => h) (Or.inl ⟨by rfl, ?_⟩) hHeld ?_
      rotate_left
      · intro w0 hSw; (try dsimp only at hSw); go_simp; (try with_reducible rfl)
      try simp only [Act.put, List.setIfInBounds_toArray, List.set_cons_zero, List.set_cons_succ]
      refine wpAnyH_take (i := 2) (oi := { dst := some 93, op := Go.Op.fieldAddr 73 (Go.Operand.tmp 3) 0, type := 0, pos := "solver.go:64", after := #[], guard := none }) (v := ?_) rfl (by kernel_rfl) (by kernel_rfl) (by kernel_rfl) (fun _ _ _ h => h) (Or.inl ⟨by rfl, ?_⟩) hHeld ?_
      rotate_left
      · intro w0 hSw; (try dsimp only at hSw); go_simp; (try with_reducible rfl)
      try simp only [Act.put, List.setIfInBounds_toArray, List.set_cons_zero, List.set_cons_succ]
      refine wpAnyH_take (i := 3) (oi := { dst := some 94, op := Go.Op.fieldAddr 58 (Go.Operand.tmp 93) 4, type := 0, pos := "solver.go:64", after := #[{ on := 2, ground := Go.Ground.data }], guard := none }) (v := ?_) rfl (by kernel_rfl) (by kernel_rfl) (by kernel_rfl) (fun _ _ _ h => h) (Or.inl ⟨by rfl, ?_⟩) hHeld ?_
      rotate_left
      · intro w0 hSw; (try dsimp only at hSw); go_simp; (try with_reducible rfl)
      try simp only [Act.put, List.setIfInBounds_toArray, List.set_cons_zero, List.set_cons_succ]
      refine wpAnyH_take (i := 4) (oi := { dst := some 95, op := Go.Op.load 3 (Go.Operand.tmp 94), type := 3, pos := "solver.go:64", after := #[{ on := 3, ground := Go.Ground.data }], guard := none }) (v := ?_) rfl (by kernel_rfl) (by kernel_rfl) (by kernel_rfl) (fun _ _ _ h => h) (Or.inl ⟨by rfl, ?_⟩) hHeld ?_
      rotate_left
      · intro w0 hSw; (try dsimp only at hSw); go_simp; (try with_reducible rfl)
      try simp only [Act.put, List.setIfInBounds_toArray, List.set_cons_zero, List.set_cons_succ]
      refine wpAnyH_take (i := 5) (oi := { dst := some 96, op := Go.Op.indexAddr 27 (Go.Operand.tmp 92) (Go.Operand.tmp 95), type := 0, pos := "solver.go:64", after := #[{ on := 1, ground := Go.Ground.data }, { on := 4, ground := Go.Ground.data }], guard := none }) (v := ?_) rfl (by kernel_rfl) (by kernel_rfl) (by kernel_rfl) (fun _ _ _ h => h) (Or.inl ⟨by rfl, ?_⟩) hHeld ?_
      rotate_left
      · intro w0 hSw; (try dsimp only at hSw); go_simp; (try with_reducible rfl)
      try simp only [Act.put, List.setIfInBounds_toArray, List.set_cons_zero, List.set_cons_succ]
      refine wpAnyH_take (i := 6) (oi := { dst := some 97, op := Go.Op.load 23 (Go.Operand.tmp 96), type := 23, pos := "solver.go:64", after := #[{ on := 5, ground := Go.Ground.data }], guard := none }) (v := ?_) rfl (by kernel_rfl) (by kernel_rfl) (by kernel_rfl) (fun _ _ _ h => h) (Or.inl ⟨by rfl, ?_⟩) hHeld ?_
      rotate_left
      · intro w0 hSw; (try dsimp only at hSw); go_simp; (try with_reducible rfl)
      try simp only [Act.put, List.setIfInBounds_toArray, List.set_cons_zero, List.set_cons_succ]
      refine wpAnyH_take (i := 7) (oi := { dst := some 98, op := Go.Op.load 27 (Go.Operand.tmp 4), type := 27, pos := "solver.go:64", after := #[], guard := none }) (v := ?_) rfl (by kernel_rfl) (by kernel_rfl) (by kernel_rfl) (fun _ _ _ h => h) (Or.inl ⟨by rfl, ?_⟩) hHeld ?_
      rotate_left
      · intro w0 hSw; (try dsimp only at hSw); go_simp; (try with_reducible rfl)
      try simp only [Act.put, List.setIfInBounds_toArray, List.set_cons_zero, List.set_cons_succ]
      refine wpAnyH_take (i := 8) (oi := { dst := some 99, op := Go.Op.fieldAddr 73 (Go.Operand.tmp 3) 0, type := 0, pos := "solver.go:64", after := #[], guard := none }) (v := ?_) rfl (by kernel_rfl) (by kernel_rfl) (by kernel_rfl) (fun _ _ _ h => h) (Or.inl ⟨by rfl, ?_⟩) hHeld ?_
      rotate_left
      · intro w0 hSw; (try dsimp only at hSw); go_simp; (try with_reducible rfl)
      try simp only [Act.put, List.setIfInBounds_toArray, List.set_cons_zero, List.set_cons_succ]
      refine wpAnyH_take (i := 9) (oi := { dst := some 100, op := Go.Op.fieldAddr 58 (Go.Operand.tmp 99) 1, type := 0, pos := "solver.go:64", after := #[{ on := 8, ground := Go.Ground.data }], guard := none }) (v := ?_) rfl (by kernel_rfl) (by kernel_rfl) (by kernel_rfl) (fun _ _ _ h => h) (Or.inl ⟨by rfl, ?_⟩) hHeld ?_
      rotate_left
      · intro w0 hSw; (try dsimp only at hSw); go_simp; (try with_reducible rfl)
      try simp only [Act.put, List.setIfInBounds_toArray, List.set_cons_zero, List.set_cons_succ]
      refine wpAnyH_take (i := 10) (oi := { dst := some 101, op := Go.Op.load 3 (Go.Operand.tmp 100), type := 3, pos := "solver.go:64", after := #[{ on := 9, ground := Go.Ground.data }], guard := none }) (v := ?_) rfl (by kernel_rfl) (by kernel_rfl) (by kernel_rfl) (fun _ _ _ h => h) (Or.inl ⟨by rfl, ?_⟩) hHeld ?_
      rotate_left
      · intro w0 hSw; (try dsimp only at hSw); go_simp; (try with_reducible rfl)
      try simp only [Act.put, List.setIfInBounds_toArray, List.set_cons_zero, List.set_cons_succ]
      refine wpAnyH_take (i := 11) (oi := { dst := some 102, op := Go.Op.indexAddr 27 (Go.Operand.tmp 98) (Go.Operand.tmp 101), type := 0, pos := "solver.go:64", after := #[{ on := 7, ground := Go.Ground.data }, { on := 10, ground := Go.Ground.data }], guard := none }) (v := ?_) rfl (by kernel_rfl) (by kernel_rfl) (by kernel_rfl) (fun _ _ _ h => h) (Or.inl ⟨by rfl, ?_⟩) hHeld ?_
      rotate_left
      · intro w0 hSw; (try dsimp only at hSw); go_simp; (try with_reducible rfl)
      try simp only [Act.put, List.setIfInBounds_toArray, List.set_cons_zero, List.set_cons_succ]
      refine wpAnyH_ready (rs := [12]) (by kernel_rfl) (by simp) ?_
      refine AllReadyH.cons (o := { dst := some 103, op := Go.Op.call { callee := Go.Callee.value (Go.Operand.func 40), args := #[Go.Operand.tmp 91, Go.Operand.tmp 97, Go.Operand.tmp 102], argTypes := #[85, 23, 88] }, type := 0, pos := "solver.go:64", after := #[{ on := 0, ground := Go.Ground.data }, { on := 6, ground := Go.Ground.data }, { on := 11, ground := Go.Ground.data }], guard := none }) rfl (fun K' hK' => ?_) AllReadyH.nil
      go_simp
      go_at_call 40
      refine Calls.mono (C.out _ DD.out.sol) ?_
      rintro _ X2 ⟨rfl, h1, h2⟩
      have D2 := hid (DD.out.brought hsb h1 h2)
      have hz := hid (SZ.out _ D2.out)
      refine hK'.out _ _ hz.out (fun hHeld => ?_)
      clear hK' K'
      try simp only [Act.put, List.setIfInBounds_toArray, List.set_cons_zero, List.set_cons_succ]
      refine wpAnyH_done (by kernel_rfl) ?_ _
      clear hHeld
      have D3 := D2.out
      rw [FL.out] at D3
      replace D3 := hid D3
      have TT := hid ((Touch.of_below (T := Own base top sb) ((Below.refl X.heap.size X).drew)).trans h2)
      clear D2 hz h1 h2 SZ sx
      gi_wp2_with fail
      exact ⟨TT.out, _, D3.out, hIN.out⟩
    · obtain ⟨ra2, cp2, ev⟩ := hD.sol.sets.form (r := c.threads.length + 1 + q) (by rw [hD.sol.sets.len]; omega)
      dsimp only at f5
      rw [ev] at f5
      have hIN := hid (hI.skipped (q := q) (fun e1 => by rw [gR_out (by rw [← e1]; exact hlt)]; exact Sub.zero _))
      rw [← tk] at hIN
      have hlt' : ((Rk.getD (c.threads.length + 1 + q) []).length : Int) ≤ (n : Int) := by omega
      replace hD := hid hD
      generalize hfl : (Rk.getD (c.threads.length + 1 + q) []).length = fl at *
      replace hI := hid hI
      replace hus := hid hus
      clear HO3 HCl HU hS hbits ev f1 f2 f3 f4 tk hUk hf ef hfl hlt
      gi_wp2_with fail
      exact ⟨Touch.refl _ _, Rk, hD.out, hIN.out⟩
  case done =>
    rintro D X ⟨Rk, h1, h2⟩ hD hK
    rw [List.take_length] at h2
    have hG : Grew c i t ⟨3, d, e, r, n, tt, its, iv, idx, xv⟩ R Rk := ⟨h2.shape, h2.le, h2.least, fun e1 => HCl.out (h2.done e1)⟩
    clear HO3 HCl HU hS hbits h2
    replace h1 := hid h1
    gi_wp2_with fail
    refine ⟨by simp, .inl ⟨_, _, rfl, run_takeDeferred hK, ?_⟩⟩
    have hE := h1.out.aside hsb (Touch.putObj (T := fun b => b = D) X D (.deferred none) rfl) (fun b hb q => by have := DZ.out.b4.lt; omega)
    exact ⟨_, results_none rfl _ _ _, rfl, Rk, hE.sol, hG, hE.tch⟩
  case stop =>
    rintro D c X h
    exact h.elim
end Go.Proofs.YtdpbapoahfggeaaDoor
