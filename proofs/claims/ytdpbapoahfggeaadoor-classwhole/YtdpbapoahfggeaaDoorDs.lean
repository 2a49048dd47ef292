/- The contract of do: a store of a field. -/
import Derived.Test.YtdpbapoahfggeaaDoorDl
namespace Go.Proofs.YtdpbapoahfggeaaDoor
open Go.ChangeShapes Go.WideShapes Go.ChangeAt Go.RowKit
set_option linter.unusedVariables false
set_option linter.unusedSimpArgs false
attribute [local go_sem] Oper.semAt_some

theorem DoW.outer {W Y : World} {sb base top : Nat} {c : Cd} {v0 v1 : Value} {g : Bool} {R : List (List Nat)} {V : Nat → Value} {B : Nat → Nat} {s : Stp} {row : Value} {fb foff fc q : Nat} (h : DoW W sb base top c v0 v1 (.slice (some ⟨fb, foff, none⟩) c.sites.length fc) g R V B s row Y) (hq : q < c.sites.length) : Y.cell? ⟨fb, foff + q, none⟩ = some (V (c.threads.length + 1 + q)) := by
  obtain ⟨a, cc, e, hf⟩ := h.sol.sets.o2
  obtain ⟨rfl, _, _⟩ := Value.slice.inj e
  obtain ⟨b, off, e1, _, _, _, _, k⟩ := hf q hq
  cases e1
  exact k
/-- Sites, told in an older world. -/
theorem site_cell {W0 X : World} {ev : Value} {l : List Ste} (h : Stes W0 ev l) (hB : Below W0.heap.size W0 X) : ∃ a cap, ev = .slice a l.length cap ∧ ∀ q, q < l.length → ∃ b off s, a = some ⟨b, off, none⟩ ∧ l[q]? = some s ∧ X.cell? ⟨b, off + q * 3 + 2, none⟩ = some (.int .i64 s.rc) := by
  obtain ⟨a, cap, h1, h2⟩ := h.at
  refine ⟨a, cap, h1, fun q hq => ?_⟩
  obtain ⟨s, b, off, e1, e2, e3, e4, _⟩ := h2 q hq
  exact ⟨b, off, s, e2, e1, by rw [World.cell?_of_block (hB.block b e3)]; exact e4 2 _ rfl⟩
theorem below_own {W0 W X : World} {base top sb : Nat} (hB : Below W0.heap.size W0 W) (h : Touch (Own base top sb) W X) (hsb : W0.heap.size ≤ base) (hbt : W0.heap.size ≤ sb) : Below W0.heap.size W0 X :=
  hB.trans (h.below (fun i hi => ⟨by have := hB.size; omega, fun q => by rcases q with q | q <;> omega⟩))

set_option maxRecDepth 100000 in
set_option maxHeartbeats 2000000 in
theorem do6 {W : World} {sb base top : Nat} {c : Cd} {v0 v1 v2 : Value} {g : Bool} {R : List (List Nat)} {V : Nat → Value} {B : Nat → Nat} {t : Bd} {s : Stp} (h : Fed W sb base top c v0 v1 v2 g R V B t s) (hop : s.x.op = 6) (hTab : Tab W) (hb0 : 0 < base) (hs0 : 0 < sb) (W0 : World) (hW0 : W0.heap.size ≤ base) (hW1 : W0.heap.size ≤ sb) (hSt : Stes W0 c.ev c.sites) (hBl : Below W0.heap.size W0 W) :
    Calls Tryd.prog 25 #[.pointer (some ⟨sb, 0, none⟩), .agg s.cells.toArray] W fun e W' => e = .returned (.tuple #[]) ∧ ∃ R', Sol W' sb base top c v0 v1 v2 (g || decide (R' ≠ R)) R' V B ∧ Grew c s.i t s.x R R' ∧ Touch (Own base top sb) W W' := by
  obtain ⟨j, hx⟩ := h.co
  have F := ins_facts h.good h.th hx
  have hti := h.ti
  have hnm := h.nums
  obtain ⟨hul, hu1⟩ := h.uses
  have hus := h.us
  have hU := h.low.allU h.good
  have htg : meansL (fieldAt c s.x) = true := by have := h.tg; rw [tgtM, hop] at this; exact this
  obtain ⟨e, he, hel⟩ := F.s (by rw [hop]; rfl)
  obtain ⟨r, n, hr, hrl, hn, hnl⟩ := F.f (.inr hop)
  have hrow : e < (R.getD s.i []).length := by rw [row_at h.low, shape_slots c h.th]; exact hel
  have hrow2 := hrow
  have hbits := h.low.bits h.good s.i e
  have hbt : base < top := by have := (h.sol.sets.at hrow); obtain ⟨_, _, _, a, b, _⟩ := this; omega
  have HO6 := hid (fun (T : List (List Nat)) (hC : Cl c s.i t T s.x) k hk hb hrc => (by
    have := hC.o6 hop htg k hk (by rw [he, Int.toNat_natCast]; exact hb) hrc
    rw [hn, Int.toNat_natCast, ← hus] at this
    exact this : Sub (meant T s.i s.l) (gR T (c.threads.length + 1 + k) n)))
  have HU := hid (fun (Rk : List (List Nat)) (L : List Nat) (f : Nat → Prop) (hI : InvL c s.i t s.x R Rk L f) => ((hI.low h.low h.th hx).allU h.good : AllU Rk))
  obtain ⟨fa, fc, e2, _⟩ := h.sol.sets.o2
  subst e2
  have HCl := hid (fun (hS : ∀ q ∈ bitsL (gR R s.i e), (c.sites.getD q Ste.z).rc = s.x.rc → Sub (meant R s.i s.l) (gR R (c.threads.length + 1 + q) n)) => (⟨fun a => by omega, fun a => by omega, fun a => by omega, fun a => by omega, fun _ _ k hk hb hrc => by
    rw [hn, Int.toNat_natCast, ← hus]
    rw [he, Int.toNat_natCast] at hb
    exact hS k (mem_bits.2 ⟨by have := h.good.l4; omega, hb⟩) hrc, fun a => by omega⟩ : Cl c s.i t R s.x))
  have HL := hid (fun (Rk : List (List Nat)) (hs : shp Rk = shp R) q (hq : q < c.sites.length) (hrc : (c.sites.getD q Ste.z).rc = (r : Int)) => (by
    have es : c.sites[q]? = some (c.sites.getD q Ste.z) := by simp [List.getD, hq]
    rw [row_len, hs, h.low.1, shape_site c es]
    unfold fldN
    rw [hrc, if_neg (by omega), Int.toNat_natCast]
    exact hnl : n < (Rk.getD (c.threads.length + 1 + q) []).length))
  have hulM := hid (fun (Rk : List (List Nat)) (hs : shp Rk = shp R) => (by rw [row_len, hs, ← row_len]; exact hul : ∀ q ∈ s.l, q < (Rk.getD s.i []).length))
  have c5 := h.sol.box.cell 5 (v := v0) rfl
  obtain ⟨oa, oc, e0, ho⟩ := h.sol.sets.o0
  obtain ⟨ob, ooff, e1, o2, o3, o4, o5, o6⟩ := ho s.i hti
  subst e1
  obtain ⟨cp, k1, k2, k3, k4, k5⟩ := h.sol.sets.at hrow
  rw [k1] at o6
  have hsb := h.sol.box.lt
  have Sl := hid h.sol
  obtain ⟨⟨op, dst, src, rc, nn, tt, its, iv, idx, xv⟩, i, l, v⟩ := s
  simp only at *
  subst hop he hr hn
  clear h hx F htg ho
  subst e0
  generalize hrl : (R.getD i []).length = rl at *
  have D := DoW.start (row := .slice (some ⟨B i, 0, none⟩) rl cp) (s := ⟨⟨6, dst, (e : Int), (r : Int), (n : Int), tt, its, iv, idx, xv⟩, i, l, v⟩) Sl.out hnm
  simp only [Stp.cells] at D ⊢
  replace D := hid D
  replace hU := hid hU
  replace hrl := hid hrl
  clear k1 k2 k3 k4 k5 o2 o3 o5
  refine (callsIn_wide (n := 3)).1 ?_
  refine callsIn_of_wp_marks Tryd.func25 rfl trivial ?_ rfl
  refine wpIn_wide.2 ?_
  simp only [Tryd.ntmps25, List.size_toArray, List.length_cons, List.length_nil, Nat.reduceAdd, Nat.reduceSub, Array.replicate_succ, Array.replicate_zero, List.push_toArray, List.append_toArray, List.nil_append, List.cons_append]
  go_wp2_with fail
  have BX := below_two W (.cells #[.pointer (some ⟨sb, 0, none⟩)] 85) (.cells #[.int .i64 6, .int .i64 dst, .int .i64 (e : Int), .int .i64 (r : Int), .int .i64 (n : Int), .int .i64 tt, iv, xv, .int .i64 (i : Int), v] 73)
  have hsX := Nat.lt_of_lt_of_le hsb BX.size
  have hoX := Nat.lt_of_lt_of_le o4 BX.size
  rw [← BX.cell hsb] at c5
  rw [← BX.cell o4] at o6
  have x0 := ((VarAt.new W [.pointer (some ⟨sb, 0, none⟩)] 85).past (.cells #[.int .i64 6, .int .i64 dst, .int .i64 (e : Int), .int .i64 (r : Int), .int .i64 (n : Int), .int .i64 tt, iv, xv, .int .i64 (i : Int), v] 73)).cell 0 (v := .pointer (some ⟨sb, 0, none⟩)) rfl
  have x8 := (VarAt.new (W.alloc (.cells #[.pointer (some ⟨sb, 0, none⟩)] 85)) [.int .i64 6, .int .i64 dst, .int .i64 (e : Int), .int .i64 (r : Int), .int .i64 (n : Int), .int .i64 tt, iv, xv, .int .i64 (i : Int), v] 73).cell 8 (v := .int .i64 (i : Int)) rfl
  simp only [World.size_alloc] at x8
  have hXs : ((W.alloc (.cells #[.pointer (some ⟨sb, 0, none⟩)] 85)).alloc (.cells #[.int .i64 6, .int .i64 dst, .int .i64 (e : Int), .int .i64 (r : Int), .int .i64 (n : Int), .int .i64 tt, iv, xv, .int .i64 (i : Int), v] 73)).heap.size = W.heap.size + 2 := by simp
  generalize hX : (W.alloc (.cells #[.pointer (some ⟨sb, 0, none⟩)] 85)).alloc (.cells #[.int .i64 6, .int .i64 dst, .int .i64 (e : Int), .int .i64 (r : Int), .int .i64 (n : Int), .int .i64 tt, iv, xv, .int .i64 (i : Int), v] 73) = X at *
  clear hX BX
  have q2 : W.heap.size < X.heap.size := by omega
  have q3 : W.heap.size + 1 < X.heap.size := by omega
  go_region_held3 (fun w' => w'.cell? ⟨W.heap.size, 0, none⟩ = some (.pointer (some ⟨sb, 0, none⟩)) ∧ w'.cell? ⟨W.heap.size + 1, 8, none⟩ = some (.int .i64 (i : Int)) ∧ w'.cell? ⟨sb, 5, none⟩ = some (.slice (some ⟨ob, ooff, none⟩) c.threads.length oc) ∧ w'.cell? ⟨ob, ooff + i, none⟩ = some (.slice (some ⟨B i, 0, none⟩) rl cp)) (go_keep) (fail)
  rename_i hHeld
  clear hHeld
  generalize hY : (X.alloc (.cells #[.slice (some ⟨B i, 0, none⟩) rl cp] 27)).drew = Y at *
  clear hY q2 q3 x0 x8 hoX hsX c5 o6 o4 hXs
  obtain ⟨y0, y30, y31, y32, y33, y34, y35, y36, y37, y38, y39, y4⟩ := cells_of D.out
  have r2 := D.out.b2.lt
  have r3 := D.out.b3.lt
  have r4 := D.out.b4.lt
  simp only at y30 y31 y32 y33 y34 y35 y36 y37 y38 y39
  have ke := D.out.rowAt (r := i) (j := e) (by rw [hrl.out]; exact hrow2)
  go_wp2_with (go_at_call 18; refine Calls.mono (each_any _ _) ?_; rintro _ w' ⟨rfl, rfl⟩)
  clear y0 y30 y31 y32 y33 y34 y35 y36 y37 y38 y39 y4 ke
  have hsu : gR R i e < 18446744073709551616 := by have := hU.out i e; rw [p64] at this; exact this
  have BZ := (Below.refl Y.heap.size Y).alloc (Nat.le_refl _) (.cells #[.int .u64 ((gR R i e : Nat) : Int)] 23)
  have DZ := D.out.kept BZ
  have ha := DZ.hi
  have hT0 := own0 (top := top) hb0 hs0
  have TZ : Tab (Y.alloc (.cells #[.int .u64 ((gR R i e : Nat) : Int)] 23)) := hTab.touch DZ.tch hT0
  have hS := fun n' => each1_seq (Own base top sb) hT0 (gR R i e) hsu Y.heap.size _ (new_cell Y #[.int .u64 ((gR R i e : Nat) : Int)] 23 0 _ rfl) TZ n'
  replace hS := hid hS
  generalize hset : gR R i e = set at *
  replace hset := hid hset
  have sZ : (Y.alloc (.cells #[.int .u64 (set : Int)] 23)).heap.size = Y.heap.size + 1 := by simp
  generalize hZ : Y.alloc (.cells #[.int .u64 (set : Int)] 23) = Z at *
  clear hZ D BZ
  replace DZ := hid DZ
  replace hus := hid hus
  refine (wpIn_wide (n := 3)).1 ?_
  refine wpIn_range3 rfl rfl (gf := 27) (lb := #[.pointer (some ⟨Y.heap.size, 0, none⟩)]) rfl trivial (enters_of Tryd.func27 (by kernel_rfl) rfl) hS.out ⟨fun q => by rcases q with q | q <;> omega, fun q => by rcases q with q | q <;> omega⟩ (fun k args W h => by obtain ⟨x, _, rfl⟩ := h; rfl)
    (fun k X => ∃ Rk, DoW W sb base top c (.slice (some ⟨ob, ooff, none⟩) c.threads.length oc) v1 (.slice fa c.sites.length fc) (flg g Rk R) Rk V B ⟨⟨6, dst, e, r, n, tt, its, iv, idx, xv⟩, i, l, v⟩ (.slice (some ⟨B i, 0, none⟩) rl cp) X ∧ InvL c i t ⟨6, dst, e, r, n, tt, its, iv, idx, xv⟩ R Rk ((bitsL set).take k) (fun q => (c.sites.getD q Ste.z).rc = (r : Int) → Sub (meant R i l) (gR R (c.threads.length + 1 + q) n))) (fun _ _ => False) ?hI (fun _ _ _ _ h _ => h) ?h0
    (fun k a' X => ∃ q : Nat, (bitsL set)[k]? = some q ∧ a' = { tmps := (.pointer (some ⟨sb, 0, none⟩) :: .agg #[.int .i64 6, .int .i64 dst, .int .i64 (e : Int), .int .i64 (r : Int), .int .i64 (n : Int), .int .i64 tt, iv, xv, .int .i64 (i : Int), v] :: .pointer (some ⟨W.heap.size, 0, none⟩) :: .pointer (some ⟨W.heap.size + 1, 0, none⟩) :: .pointer (some ⟨W.heap.size + 2, 0, none⟩) :: undef :: undef :: .int .i64 (q : Int) :: .pointer (some ⟨sb, 0, none⟩) :: .pointer (some ⟨sb, 0, none⟩) :: .pointer (some ⟨sb, 5, none⟩) :: .pointer (some ⟨sb, 5, none⟩) :: .slice (some ⟨ob, ooff, none⟩) c.threads.length oc :: .pointer (some ⟨W.heap.size + 1, 8, none⟩) :: .int .i64 (i : Int) :: .pointer (some ⟨ob, ooff + i, none⟩) :: .slice (some ⟨B i, 0, none⟩) rl cp :: .pointer (some ⟨W.heap.size + 1, 0, none⟩) :: .pointer (some ⟨W.heap.size + 1, 0, none⟩) :: .int .i64 6 :: .bool false :: .bool false :: undef :: undef :: undef :: undef :: undef :: undef :: undef :: undef :: undef :: undef :: .bool false :: .bool false :: undef :: undef :: undef :: undef :: undef :: undef :: undef :: undef :: undef :: undef :: undef :: undef :: undef :: undef :: undef :: undef :: undef :: .bool false :: .bool false :: undef :: undef :: undef :: undef :: undef :: undef :: undef :: undef :: undef :: undef :: undef :: undef :: undef :: undef :: .bool false :: .bool false :: undef :: undef :: undef :: undef :: undef :: undef :: undef :: undef :: undef :: undef :: undef :: undef :: undef :: undef :: undef :: undef :: undef :: undef :: undef :: undef :: undef :: undef :: undef :: undef :: undef :: undef :: undef :: undef :: undef :: undef :: undef :: undef :: undef :: undef :: undef :: .bool true :: .bool true :: .slice (some ⟨B i, 0, none⟩) rl cp :: .pointer (some ⟨W.heap.size + 1, 0, none⟩) :: .pointer (some ⟨W.heap.size + 1, 2, none⟩) :: .int .i64 (e : Int) :: .pointer (some ⟨B i, e, none⟩) :: .int .u64 (set : Int) :: .func (.func 27) #[] #[.pointer (some ⟨Y.heap.size, 0, none⟩)] :: .int .i64 (q : Int) :: undef :: undef :: undef :: undef :: undef :: undef :: undef :: undef :: undef :: undef :: undef :: undef :: undef :: undef :: undef :: undef :: undef :: undef :: undef :: undef :: undef :: undef :: undef :: undef :: undef :: undef :: undef :: undef :: undef :: undef :: undef :: undef :: undef :: undef :: undef :: undef :: undef :: undef :: undef :: undef :: undef :: undef :: undef :: undef :: []).toArray, defers := [] }) ?hA ?assign ?body ?done ?stop
  case hI =>
    rintro k X X' hz ⟨Rk, h1, h2⟩ ht
    have := DZ.out.b4.lt
    exact ⟨Rk, h1.aside hsb ht (fun b hb q => by rcases q with q | q <;> omega), h2⟩
  case h0 =>
    intro X hb hz
    exact ⟨R, by rw [flg_self]; exact DZ.out.kept hb, InvL.start _ _ _ _ _ _⟩
  case hA => exact fun k a' X X' h _ _ => h
  case assign =>
    rintro lp k args X K ⟨q, hq, rfl⟩ hsz hK
    clear HO6 HCl HU hS hbits HL hulM
    gi_wp2
    exact hK _ _ (Below.refl _ _) ⟨q, hq, rfl⟩
  case body =>
    rintro lp k a' X ⟨Rk, hD, hI⟩ hk ⟨q, hq, rfl⟩ hsz
    obtain ⟨hq64, hqb⟩ := bits_lt hq
    have hqn := hbits q hqb
    obtain ⟨fa', fc', ef, hf⟩ := hD.sol.sets.o2
    obtain ⟨rfl, _, rfl⟩ := Value.slice.inj ef
    obtain ⟨fb, foff, rfl, f1, f2, f3, f4, f5⟩ := hf q hqn
    have tk := take_snoc' hq
    have DD := hid hD.drew
    have SB := below_own hBl DD.out.tch hW0 hW1
    obtain ⟨ea, ecap, ev, hsites⟩ := site_cell hSt SB
    obtain ⟨eb, eoff, st, rfl, es, ec⟩ := hsites q hqn
    have hst : c.sites.getD q Ste.z = st := by simp [List.getD, es]
    have sx : Hid (X.drew.cell? ⟨W.heap.size, 0, none⟩ = some (.pointer (some ⟨sb, 0, none⟩)) ∧ X.drew.cell? ⟨W.heap.size + 1, 3, none⟩ = some (.int .i64 (r : Int)) ∧ X.drew.cell? ⟨sb, 3, none⟩ = some (.slice (some ⟨eb, eoff, none⟩) c.sites.length ecap) ∧ X.drew.cell? ⟨eb, eoff + q * 3 + 2, none⟩ = some (.int .i64 st.rc)) := hid ⟨DD.out.b2.cell 0 rfl, DD.out.b3.cell 3 rfl, by rw [← ev]; exact DD.out.sol.box.cell 3 rfl, ec⟩
    have hqi : (q : Int) < (c.sites.length : Int) := by omega
    generalize hsrc : st.rc = src at *
    have hUk := HU.out _ _ _ hI
    have hM := hulM.out _ hI.shape
    have HLk := fun h => HL.out Rk hI.shape q hqn h
    have HK := hid (fun h => (hI.skipped (q := q) h))
    rw [← tk, hst, hsrc] at HK
    rw [hst, hsrc] at HLk
    replace HLk := hid HLk
    replace hM := hid hM
    replace hI := hid hI
    replace hUk := hid hUk
    replace hD := hid hD
    replace hsrc := hid hsrc
    replace hst := hid hst
    clear HCl HU hS hbits f1 f2 f3 f4 f5 hf ef ev ec hsites SB HL hulM tk es
    gi_wp2_with fail
    refine wpIn_calm ?_
    refine wpIn_round_held (S := fun (w' : World) => w'.cell? ⟨W.heap.size, 0, none⟩ = some (.pointer (some ⟨sb, 0, none⟩)) ∧ w'.cell? ⟨W.heap.size + 1, 3, none⟩ = some (.int .i64 (r : Int)) ∧ w'.cell? ⟨sb, 3, none⟩ = some (.slice (some ⟨eb, eoff, none⟩) c.sites.length ecap) ∧ w'.cell? ⟨eb, eoff + q * 3 + 2, none⟩ = some (.int .i64 src)) (by kernel_rfl) (nd_of _ (by kernel_rfl)) (fun ⟨_, _, h⟩ => h) sx.out (fun hHeld => ?_)
    refine wpAnyH_take (i := 0) (oi := { dst := some 114, op := Go.Op.load 85 (Go.Operand.tmp 2), type := 85, pos := "solver.go:69", after := #[], guard := none }) (v := ?_) rfl (by kernel_rfl) (by kernel_rfl) (by kernel_rfl) (fun _ _ _ h => h) (Or.inl ⟨by rfl, ?_⟩) hHeld ?_
    rotate_left
    · intro w0 hSw; (try dsimp only at hSw); go_simp; (try with_reducible rfl)
    try simp only [Act.put, List.setIfInBounds_toArray, List.set_cons_zero, List.set_cons_succ]
    refine wpAnyH_take (i := 1) (oi := { dst := some 115, op := Go.Op.nilCheck (Go.Operand.tmp 114), type := 0, pos := "solver.go:69", after := #[{ on := 0, ground := Go.Ground.data }], guard := none }) (v := ?_) rfl (by kernel_rfl) (by kernel_rfl) (by kernel_rfl) (fun _ _ _ h => h) (Or.inl ⟨by rfl, ?_⟩) hHeld ?_
    rotate_left
    · intro w0 hSw; (try dsimp only at hSw); go_simp; (try with_reducible rfl)
    try simp only [Act.put, List.setIfInBounds_toArray, List.set_cons_zero, List.set_cons_succ]
    refine wpAnyH_take (i := 2) (oi := { dst := some 116, op := Go.Op.fieldAddr 69 (Go.Operand.tmp 115) 0, type := 0, pos := "solver.go:69", after := #[{ on := 1, ground := Go.Ground.data }], guard := none }) (v := ?_) rfl (by kernel_rfl) (by kernel_rfl) (by kernel_rfl) (fun _ _ _ h => h) (Or.inl ⟨by rfl, ?_⟩) hHeld ?_
    rotate_left
    · intro w0 hSw; (try dsimp only at hSw); go_simp; (try with_reducible rfl)
    try simp only [Act.put, List.setIfInBounds_toArray, List.set_cons_zero, List.set_cons_succ]
    refine wpAnyH_take (i := 3) (oi := { dst := some 117, op := Go.Op.fieldAddr 41 (Go.Operand.tmp 116) 3, type := 0, pos := "solver.go:69", after := #[{ on := 2, ground := Go.Ground.data }], guard := none }) (v := ?_) rfl (by kernel_rfl) (by kernel_rfl) (by kernel_rfl) (fun _ _ _ h => h) (Or.inl ⟨by rfl, ?_⟩) hHeld ?_
    rotate_left
    · intro w0 hSw; (try dsimp only at hSw); go_simp; (try with_reducible rfl)
    try simp only [Act.put, List.setIfInBounds_toArray, List.set_cons_zero, List.set_cons_succ]
    refine wpAnyH_take (i := 4) (oi := { dst := some 118, op := Go.Op.load 38 (Go.Operand.tmp 117), type := 38, pos := "solver.go:69", after := #[{ on := 3, ground := Go.Ground.data }], guard := none }) (v := ?_) rfl (by kernel_rfl) (by kernel_rfl) (by kernel_rfl) (fun _ _ _ h => h) (Or.inl ⟨by rfl, ?_⟩) hHeld ?_
    rotate_left
    · intro w0 hSw; (try dsimp only at hSw); go_simp; (try with_reducible rfl)
    try simp only [Act.put, List.setIfInBounds_toArray, List.set_cons_zero, List.set_cons_succ]
    refine wpAnyH_take (i := 5) (oi := { dst := some 119, op := Go.Op.move (Go.Operand.tmp 7), type := 3, pos := "solver.go:69", after := #[], guard := none }) (v := ?_) rfl (by kernel_rfl) (by kernel_rfl) (by kernel_rfl) (fun _ _ _ h => h) (Or.inl ⟨by rfl, ?_⟩) hHeld ?_
    rotate_left
    · intro w0 hSw; (try dsimp only at hSw); go_simp; (try with_reducible rfl)
    try simp only [Act.put, List.setIfInBounds_toArray, List.set_cons_zero, List.set_cons_succ]
    refine wpAnyH_take (i := 6) (oi := { dst := some 120, op := Go.Op.indexAddr 38 (Go.Operand.tmp 118) (Go.Operand.tmp 119), type := 0, pos := "solver.go:69", after := #[{ on := 4, ground := Go.Ground.data }, { on := 5, ground := Go.Ground.data }], guard := none }) (v := ?_) rfl (by kernel_rfl) (by kernel_rfl) (by kernel_rfl) (fun _ _ _ h => h) (Or.inl ⟨by rfl, ?_⟩) hHeld ?_
    rotate_left
    · intro w0 hSw; (try dsimp only at hSw); go_simp; (try with_reducible rfl)
    try simp only [Act.put, List.setIfInBounds_toArray, List.set_cons_zero, List.set_cons_succ]
    refine wpAnyH_take (i := 7) (oi := { dst := some 121, op := Go.Op.fieldAddr 66 (Go.Operand.tmp 120) 2, type := 0, pos := "solver.go:69", after := #[{ on := 6, ground := Go.Ground.data }], guard := none }) (v := ?_) rfl (by kernel_rfl) (by kernel_rfl) (by kernel_rfl) (fun _ _ _ h => h) (Or.inl ⟨by rfl, ?_⟩) hHeld ?_
    rotate_left
    · intro w0 hSw; (try dsimp only at hSw); go_simp; (try with_reducible rfl)
    try simp only [Act.put, List.setIfInBounds_toArray, List.set_cons_zero, List.set_cons_succ]
    refine wpAnyH_take (i := 8) (oi := { dst := some 122, op := Go.Op.load 3 (Go.Operand.tmp 121), type := 3, pos := "solver.go:69", after := #[{ on := 7, ground := Go.Ground.data }], guard := none }) (v := ?_) rfl (by kernel_rfl) (by kernel_rfl) (by kernel_rfl) (fun _ _ _ h => h) (Or.inl ⟨by rfl, ?_⟩) hHeld ?_
    rotate_left
    · intro w0 hSw; (try dsimp only at hSw); go_simp; (try with_reducible rfl)
    try simp only [Act.put, List.setIfInBounds_toArray, List.set_cons_zero, List.set_cons_succ]
    refine wpAnyH_take (i := 9) (oi := { dst := some 123, op := Go.Op.fieldAddr 73 (Go.Operand.tmp 3) 0, type := 0, pos := "solver.go:69", after := #[], guard := none }) (v := ?_) rfl (by kernel_rfl) (by kernel_rfl) (by kernel_rfl) (fun _ _ _ h => h) (Or.inl ⟨by rfl, ?_⟩) hHeld ?_
    rotate_left
    · intro w0 hSw; (try dsimp only at hSw); go_simp; (try with_reducible rfl)
    try simp only [Act.put, List.setIfInBounds_toArray, List.set_cons_zero, List.set_cons_succ]
    refine wpAnyH_take (i := 10) (oi := { dst := some 124, op := Go.Op.fieldAddr 58 (Go.Operand.tmp 123) 3, type := 0, pos := "solver.go:69", after := #[{ on := 9, ground := Go.Ground.data }], guard := none }) (v := ?_) rfl (by kernel_rfl) (by kernel_rfl) (by kernel_rfl) (fun _ _ _ h => h) (Or.inl ⟨by rfl, ?_⟩) hHeld ?_
    rotate_left
    · intro w0 hSw; (try dsimp only at hSw); go_simp; (try with_reducible rfl)
    try simp only [Act.put, List.setIfInBounds_toArray, List.set_cons_zero, List.set_cons_succ]
    refine wpAnyH_take (i := 11) (oi := { dst := some 125, op := Go.Op.load 3 (Go.Operand.tmp 124), type := 3, pos := "solver.go:69", after := #[{ on := 10, ground := Go.Ground.data }], guard := none }) (v := ?_) rfl (by kernel_rfl) (by kernel_rfl) (by kernel_rfl) (fun _ _ _ h => h) (Or.inl ⟨by rfl, ?_⟩) hHeld ?_
    rotate_left
    · intro w0 hSw; (try dsimp only at hSw); go_simp; (try with_reducible rfl)
    try simp only [Act.put, List.setIfInBounds_toArray, List.set_cons_zero, List.set_cons_succ]
    refine wpAnyH_take (i := 12) (oi := { dst := some 126, op := Go.Op.binOp Go.BinOp.eql 3 (Go.Operand.tmp 122) (Go.Operand.tmp 125) 3, type := 4, pos := "solver.go:69", after := #[{ on := 8, ground := Go.Ground.data }, { on := 11, ground := Go.Ground.data }], guard := none }) (v := ?_) rfl (by kernel_rfl) (by kernel_rfl) (by kernel_rfl) (fun _ _ _ h => h) (Or.inl ⟨by rfl, ?_⟩) hHeld ?_
    rotate_left
    · intro w0 hSw; (try dsimp only at hSw); go_simp; (try with_reducible rfl)
    try simp only [Act.put, List.setIfInBounds_toArray, List.set_cons_zero, List.set_cons_succ]
    refine wpAnyH_done (by kernel_rfl) ?_ _
    clear hHeld
    by_cases hsr : src = (r : Int)
    · have hlt := HLk.out hsr
      have hrc : (c.sites.getD q Ste.z).rc = (r : Int) := by rw [hst.out, hsrc.out]; exact hsr
      obtain ⟨cp2, k1, k2, k3, k4, k5⟩ := DD.out.sol.sets.at hlt
      have C := hid (fun X' h => bringS_any (sb := sb) (base := base) (top := top) (c := c) (v0 := .slice (some ⟨ob, ooff, none⟩) c.threads.length oc) (v1 := v1) (v2 := .slice (some ⟨fb, foff, none⟩) c.sites.length fc) (g := flg g Rk R) (V := V) (B := B) (c.threads.length + 1 + q) n (meant Rk i l) X' h hUk.out hlt (meant_lt hUk.out i l))
      have M := fun X' (hX : Sol X' sb base top c (.slice (some ⟨ob, ooff, none⟩) c.threads.length oc) v1 (.slice (some ⟨fb, foff, none⟩) c.sites.length fc) (flg g Rk R) Rk V B) (hn : NumsM X' (max top (sb + 1)) W.heap.size v l) => meant_any sb base top (max top (sb + 1)) W.heap.size c (.slice (some ⟨ob, ooff, none⟩) c.threads.length oc) v1 (.slice (some ⟨fb, foff, none⟩) c.sites.length fc) (flg g Rk R) Rk V B ⟨⟨6, dst, e, r, n, tt, its, iv, idx, xv⟩, i, l, v⟩ X' hX hUk.out hti hn hM.out hu1
      simp only [Stp.cells] at M
      replace M := hid M
      have hIN := hid (hI.out.brought (r := c.threads.length + 1 + q) (j := n) (m := meant Rk i l) (q := q) hlt (fun T hs hC hl hl2 => (meant_mono hl2 i l).trans (HO6.out T hC q hqn (hl i e q (by rw [hset.out]; exact hqb)) hrc)) (fun e1 h _ => by rw [e1] at h; exact h))
      rw [← take_snoc' hq] at hIN
      have FL := hid (grew_flag (g := g) hI.out.shape ((shp_bring Rk (c.threads.length + 1 + q) n (meant Rk i l)).trans hI.out.shape) hI.out.le (le_bring hlt))
      have SZ := hid (fun X' R' g' (h : DoW W sb base top c (.slice (some ⟨ob, ooff, none⟩) c.threads.length oc) v1 (.slice (some ⟨fb, foff, none⟩) c.sites.length fc) g' R' V B ⟨⟨6, dst, e, r, n, tt, its, iv, idx, xv⟩, i, l, v⟩ (.slice (some ⟨B i, 0, none⟩) rl cp) X') => (by
        have h3 := h.outer hqn
        rw [k1] at h3
        exact ⟨h.b2.cell 0 rfl, h.b3.cell 0 rfl, h.b3.cell 1 rfl, h.b3.cell 2 rfl, h.b3.cell 3 rfl, h.b3.cell 4 rfl, h.b3.cell 5 rfl, h.b3.cell 6 rfl, h.b3.cell 7 rfl, h.b3.cell 8 rfl, h.b3.cell 9 rfl, h.sol.box.cell 7 rfl, h3⟩ : X'.cell? ⟨W.heap.size, 0, none⟩ = some (.pointer (some ⟨sb, 0, none⟩)) ∧ X'.cell? ⟨W.heap.size + 1, 0, none⟩ = some (.int .i64 6) ∧ X'.cell? ⟨W.heap.size + 1, 1, none⟩ = some (.int .i64 dst) ∧ X'.cell? ⟨W.heap.size + 1, 2, none⟩ = some (.int .i64 (e : Int)) ∧ X'.cell? ⟨W.heap.size + 1, 3, none⟩ = some (.int .i64 (r : Int)) ∧ X'.cell? ⟨W.heap.size + 1, 4, none⟩ = some (.int .i64 (n : Int)) ∧ X'.cell? ⟨W.heap.size + 1, 5, none⟩ = some (.int .i64 tt) ∧ X'.cell? ⟨W.heap.size + 1, 6, none⟩ = some (iv) ∧ X'.cell? ⟨W.heap.size + 1, 7, none⟩ = some (xv) ∧ X'.cell? ⟨W.heap.size + 1, 8, none⟩ = some (.int .i64 (i : Int)) ∧ X'.cell? ⟨W.heap.size + 1, 9, none⟩ = some (v) ∧ X'.cell? ⟨sb, 7, none⟩ = some (.slice (some ⟨fb, foff, none⟩) c.sites.length fc) ∧ X'.cell? ⟨fb, foff + q, none⟩ = some (.slice (some ⟨B (c.threads.length + 1 + q), 0, none⟩) (Rk.getD (c.threads.length + 1 + q) []).length cp2)))
      have TD := hid (Touch.of_below (T := Own base top sb) ((Below.refl X.heap.size X).drew))
      replace DD := hid DD.out.drew
      have TD2 := hid (Touch.of_below (T := Own base top sb) ((Below.refl X.drew.heap.size X.drew).drew))
      have sy := hid (SZ.out _ _ _ DD.out)
      have hlt' : (n : Int) < ((Rk.getD (c.threads.length + 1 + q) []).length : Int) := by omega
      generalize hmm : meant Rk i l = mm at *
      generalize hfl : (Rk.getD (c.threads.length + 1 + q) []).length = fl at *
      replace hmm := hid hmm
      replace hfl := hid hfl
      have hbq : (src == (r : Int)) = true := by simpa using hsr
      replace hsr := hid hsr
      replace hrc := hid hrc
      clear HO6 HK HLk hM hUk hI k1 k2 k3 k4 k5 sx
      gi_wp2_with fail
      refine wpIn_calm ?_
      refine wpIn_round_held (S := fun (w' : World) => w'.cell? ⟨W.heap.size, 0, none⟩ = some (.pointer (some ⟨sb, 0, none⟩)) ∧ w'.cell? ⟨W.heap.size + 1, 0, none⟩ = some (.int .i64 6) ∧ w'.cell? ⟨W.heap.size + 1, 1, none⟩ = some (.int .i64 dst) ∧ w'.cell? ⟨W.heap.size + 1, 2, none⟩ = some (.int .i64 (e : Int)) ∧ w'.cell? ⟨W.heap.size + 1, 3, none⟩ = some (.int .i64 (r : Int)) ∧ w'.cell? ⟨W.heap.size + 1, 4, none⟩ = some (.int .i64 (n : Int)) ∧ w'.cell? ⟨W.heap.size + 1, 5, none⟩ = some (.int .i64 tt) ∧ w'.cell? ⟨W.heap.size + 1, 6, none⟩ = some (iv) ∧ w'.cell? ⟨W.heap.size + 1, 7, none⟩ = some (xv) ∧ w'.cell? ⟨W.heap.size + 1, 8, none⟩ = some (.int .i64 (i : Int)) ∧ w'.cell? ⟨W.heap.size + 1, 9, none⟩ = some (v) ∧ w'.cell? ⟨sb, 7, none⟩ = some (.slice (some ⟨fb, foff, none⟩) c.sites.length fc) ∧ w'.cell? ⟨fb, foff + q, none⟩ = some (.slice (some ⟨B (c.threads.length + 1 + q), 0, none⟩) fl cp2)) (by kernel_rfl) (nd_of _ (by kernel_rfl)) (fun ⟨_, _, h⟩ => h) sy.out (fun hHeld => ?_)
      refine wpAnyH_take (i := 0) (oi := { dst := some 127, op := Go.Op.load 85 (Go.Operand.tmp 2), type := 85, pos := "solver.go:70", after := #[], guard := none }) (v := ?_) rfl (by kernel_rfl) (by kernel_rfl) (by kernel_rfl) (fun _ _ _ h => h) (Or.inl ⟨by rfl, ?_⟩) hHeld ?_
      rotate_left
      · intro w0 hSw; (try dsimp only at hSw); go_simp; (try with_reducible rfl)
      try simp only [Act.put, List.setIfInBounds_toArray, List.set_cons_zero, List.set_cons_succ]
      refine wpAnyH_take (i := 1) (oi := { dst := some 128, op := Go.Op.load 85 (Go.Operand.tmp 2), type := 85, pos := "solver.go:70", after := #[], guard := none }) (v := ?_) rfl (by kernel_rfl) (by kernel_rfl) (by kernel_rfl) (fun _ _ _ h => h) (Or.inl ⟨by rfl, ?_⟩) hHeld ?_
      rotate_left
      · intro w0 hSw; (try dsimp only at hSw); go_simp; (try with_reducible rfl)
      try simp only [Act.put, List.setIfInBounds_toArray, List.set_cons_zero, List.set_cons_succ]
      refine wpAnyH_take (i := 2) (oi := { dst := some 129, op := Go.Op.load 73 (Go.Operand.tmp 3), type := 73, pos := "solver.go:70", after := #[], guard := none }) (v := ?_) rfl (by kernel_rfl) (by kernel_rfl) (by kernel_rfl) (fun _ _ _ h => h) (Or.inl ⟨by rfl, ?_⟩) hHeld ?_
      rotate_left
      · intro w0 hSw; (try dsimp only at hSw); go_simp; (try with_reducible rfl)
      try simp only [Act.put, List.setIfInBounds_toArray, List.set_cons_zero, List.set_cons_succ]
      refine wpAnyH_take (i := 4) (oi := { dst := some 131, op := Go.Op.load 85 (Go.Operand.tmp 2), type := 85, pos := "solver.go:70", after := #[], guard := none }) (v := ?_) rfl (by kernel_rfl) (by kernel_rfl) (by kernel_rfl) (fun _ _ _ h => h) (Or.inl ⟨by rfl, ?_⟩) hHeld ?_
      rotate_left
      · intro w0 hSw; (try dsimp only at hSw); go_simp; (try with_reducible rfl)
      try simp only [Act.put, List.setIfInBounds_toArray, List.set_cons_zero, List.set_cons_succ]
      refine wpAnyH_take (i := 5) (oi := { dst := some 132, op := Go.Op.nilCheck (Go.Operand.tmp 131), type := 0, pos := "solver.go:70", after := #[{ on := 4, ground := Go.Ground.data }], guard := none }) (v := ?_) rfl (by kernel_rfl) (by kernel_rfl) (by kernel_rfl) (fun _ _ _ h => h) (Or.inl ⟨by rfl, ?_⟩) hHeld ?_
      rotate_left
      · intro w0 hSw; (try dsimp only at hSw); go_simp; (try with_reducible rfl)
      try simp only [Act.put, List.setIfInBounds_toArray, List.set_cons_zero, List.set_cons_succ]
      refine wpAnyH_take (i := 6) (oi := { dst := some 133, op := Go.Op.fieldAddr 69 (Go.Operand.tmp 132) 1, type := 0, pos := "solver.go:70", after := #[{ on := 5, ground := Go.Ground.data }], guard := none }) (v := ?_) rfl (by kernel_rfl) (by kernel_rfl) (by kernel_rfl) (fun _ _ _ h => h) (Or.inl ⟨by rfl, ?_⟩) hHeld ?_
      rotate_left
      · intro w0 hSw; (try dsimp only at hSw); go_simp; (try with_reducible rfl)
      try simp only [Act.put, List.setIfInBounds_toArray, List.set_cons_zero, List.set_cons_succ]
      refine wpAnyH_take (i := 7) (oi := { dst := some 134, op := Go.Op.fieldAddr 29 (Go.Operand.tmp 133) 2, type := 0, pos := "solver.go:70", after := #[{ on := 6, ground := Go.Ground.data }], guard := none }) (v := ?_) rfl (by kernel_rfl) (by kernel_rfl) (by kernel_rfl) (fun _ _ _ h => h) (Or.inl ⟨by rfl, ?_⟩) hHeld ?_
      rotate_left
      · intro w0 hSw; (try dsimp only at hSw); go_simp; (try with_reducible rfl)
      try simp only [Act.put, List.setIfInBounds_toArray, List.set_cons_zero, List.set_cons_succ]
      refine wpAnyH_take (i := 8) (oi := { dst := some 135, op := Go.Op.load 22 (Go.Operand.tmp 134), type := 22, pos := "solver.go:70", after := #[{ on := 7, ground := Go.Ground.data }], guard := none }) (v := ?_) rfl (by kernel_rfl) (by kernel_rfl) (by kernel_rfl) (fun _ _ _ h => h) (Or.inl ⟨by rfl, ?_⟩) hHeld ?_
      rotate_left
      · intro w0 hSw; (try dsimp only at hSw); go_simp; (try with_reducible rfl)
      try simp only [Act.put, List.setIfInBounds_toArray, List.set_cons_zero, List.set_cons_succ]
      refine wpAnyH_take (i := 9) (oi := { dst := some 136, op := Go.Op.move (Go.Operand.tmp 7), type := 3, pos := "solver.go:70", after := #[], guard := none }) (v := ?_) rfl (by kernel_rfl) (by kernel_rfl) (by kernel_rfl) (fun _ _ _ h => h) (Or.inl ⟨by rfl, ?_⟩) hHeld ?_
      rotate_left
      · intro w0 hSw; (try dsimp only at hSw); go_simp; (try with_reducible rfl)
      try simp only [Act.put, List.setIfInBounds_toArray, List.set_cons_zero, List.set_cons_succ]
      refine wpAnyH_take (i := 10) (oi := { dst := some 137, op := Go.Op.indexAddr 22 (Go.Operand.tmp 135) (Go.Operand.tmp 136), type := 0, pos := "solver.go:70", after := #[{ on := 8, ground := Go.Ground.data }, { on := 9, ground := Go.Ground.data }], guard := none }) (v := ?_) rfl (by kernel_rfl) (by kernel_rfl) (by kernel_rfl) (fun _ _ _ h => h) (Or.inl ⟨by rfl, ?_⟩) hHeld ?_
      rotate_left
      · intro w0 hSw; (try dsimp only at hSw); go_simp; (try with_reducible rfl)
      try simp only [Act.put, List.setIfInBounds_toArray, List.set_cons_zero, List.set_cons_succ]
      refine wpAnyH_take (i := 11) (oi := { dst := some 138, op := Go.Op.load 27 (Go.Operand.tmp 137), type := 27, pos := "solver.go:70", after := #[{ on := 10, ground := Go.Ground.data }], guard := none }) (v := ?_) rfl (by kernel_rfl) (by kernel_rfl) (by kernel_rfl) (fun _ _ _ h => h) (Or.inl ⟨by rfl, ?_⟩) hHeld ?_
      rotate_left
      · intro w0 hSw; (try dsimp only at hSw); go_simp; (try with_reducible rfl)
      try simp only [Act.put, List.setIfInBounds_toArray, List.set_cons_zero, List.set_cons_succ]
      refine wpAnyH_take (i := 12) (oi := { dst := some 139, op := Go.Op.fieldAddr 73 (Go.Operand.tmp 3) 0, type := 0, pos := "solver.go:70", after := #[], guard := none }) (v := ?_) rfl (by kernel_rfl) (by kernel_rfl) (by kernel_rfl) (fun _ _ _ h => h) (Or.inl ⟨by rfl, ?_⟩) hHeld ?_
      rotate_left
      · intro w0 hSw; (try dsimp only at hSw); go_simp; (try with_reducible rfl)
      try simp only [Act.put, List.setIfInBounds_toArray, List.set_cons_zero, List.set_cons_succ]
      refine wpAnyH_take (i := 13) (oi := { dst := some 140, op := Go.Op.fieldAddr 58 (Go.Operand.tmp 139) 4, type := 0, pos := "solver.go:70", after := #[{ on := 12, ground := Go.Ground.data }], guard := none }) (v := ?_) rfl (by kernel_rfl) (by kernel_rfl) (by kernel_rfl) (fun _ _ _ h => h) (Or.inl ⟨by rfl, ?_⟩) hHeld ?_
      rotate_left
      · intro w0 hSw; (try dsimp only at hSw); go_simp; (try with_reducible rfl)
      try simp only [Act.put, List.setIfInBounds_toArray, List.set_cons_zero, List.set_cons_succ]
      refine wpAnyH_take (i := 14) (oi := { dst := some 141, op := Go.Op.load 3 (Go.Operand.tmp 140), type := 3, pos := "solver.go:70", after := #[{ on := 13, ground := Go.Ground.data }], guard := none }) (v := ?_) rfl (by kernel_rfl) (by kernel_rfl) (by kernel_rfl) (fun _ _ _ h => h) (Or.inl ⟨by rfl, ?_⟩) hHeld ?_
      rotate_left
      · intro w0 hSw; (try dsimp only at hSw); go_simp; (try with_reducible rfl)
      try simp only [Act.put, List.setIfInBounds_toArray, List.set_cons_zero, List.set_cons_succ]
      refine wpAnyH_take (i := 15) (oi := { dst := some 142, op := Go.Op.indexAddr 27 (Go.Operand.tmp 138) (Go.Operand.tmp 141), type := 0, pos := "solver.go:70", after := #[{ on := 11, ground := Go.Ground.data }, { on := 14, ground := Go.Ground.data }], guard := none }) (v := ?_) rfl (by kernel_rfl) (by kernel_rfl) (by kernel_rfl) (fun _ _ _ h => h) (Or.inl ⟨by rfl, ?_⟩) hHeld ?_
      rotate_left
      · intro w0 hSw; (try dsimp only at hSw); go_simp; (try with_reducible rfl)
      try simp only [Act.put, List.setIfInBounds_toArray, List.set_cons_zero, List.set_cons_succ]
      refine wpAnyH_ready (rs := [3]) (by kernel_rfl) (by simp) ?_
      refine AllReadyH.cons (o := { dst := some 130, op := Go.Op.call { callee := Go.Callee.value (Go.Operand.func 41), args := #[Go.Operand.tmp 128, Go.Operand.tmp 129], argTypes := #[85, 73] }, type := 23, pos := "solver.go:70", after := #[{ on := 1, ground := Go.Ground.data }, { on := 2, ground := Go.Ground.data }], guard := none }) rfl (fun K' hK' => ?_) AllReadyH.nil
      go_simp
      go_at_call 41
      refine Calls.mono (M.out _ DD.out.sol DD.out.nums) ?_
      rintro _ X1 ⟨rfl, hb⟩
      have D1 := hid (DD.out.kept hb)
      have hz := hid (SZ.out _ _ _ D1.out)
      refine hK'.out _ _ hz.out (fun hHeld => ?_)
      clear hK' K'
      try simp only [Act.put, List.setIfInBounds_toArray, List.set_cons_zero, List.set_cons_succ]
      refine wpAnyH_ready (rs := [16]) (by kernel_rfl) (by simp) ?_
      refine AllReadyH.cons (o := { dst := some 143, op := Go.Op.call { callee := Go.Callee.value (Go.Operand.func 40), args := #[Go.Operand.tmp 127, Go.Operand.tmp 130, Go.Operand.tmp 142], argTypes := #[85, 23, 88] }, type := 0, pos := "solver.go:70", after := #[{ on := 0, ground := Go.Ground.data }, { on := 3, ground := Go.Ground.data }, { on := 15, ground := Go.Ground.data }, { on := 3, ground := Go.Ground.chain }], guard := none }) rfl (fun K' hK' => ?_) AllReadyH.nil
      go_simp
      go_at_call 40
      refine Calls.mono (C.out _ D1.out.sol) ?_
      rintro _ X2 ⟨rfl, h1, h2⟩
      have D2 := hid (D1.out.brought hsb h1 h2)
      have hz := hid (SZ.out _ _ _ D2.out)
      refine hK'.out _ _ hz.out (fun hHeld => ?_)
      clear hK' K'
      try simp only [Act.put, List.setIfInBounds_toArray, List.set_cons_zero, List.set_cons_succ]
      refine wpAnyH_done (by kernel_rfl) ?_ _
      clear hHeld
      have D3 := D2.out
      unfold flg at D3
      rw [FL.out] at D3
      have TT := hid ((TD.out.trans TD2.out).trans ((Touch.of_below hb).trans h2))
      replace D3 := hid D3
      clear D2 hz h1 h2 SZ sy hb D1
      gi_wp2_with fail
      exact ⟨TT.out, _, D3.out, hIN.out⟩
    · have hbq : (src == (r : Int)) = false := by simpa using hsr
      have hIN := hid (HK.out (fun _ h => absurd h hsr))
      have TD := hid (Touch.of_below (T := Own base top sb) ((Below.refl X.heap.size X).drew))
      replace hsr := hid hsr
      clear HO6 HK HLk hM hUk hI sx
      gi_wp2_with fail
      exact ⟨TD.out, Rk, DD.out, hIN.out⟩
  case done =>
    rintro D X ⟨Rk, h1, h2⟩ hD hK
    rw [List.take_length] at h2
    have hG : Grew c i t ⟨6, dst, e, r, n, tt, its, iv, idx, xv⟩ R Rk := ⟨h2.shape, h2.le, h2.least, fun e1 => HCl.out (h2.done e1)⟩
    clear HO6 HCl HU hS hbits h2 HL hulM
    replace h1 := hid h1
    gi_wp2_with fail
    refine ⟨by simp, .inl ⟨_, _, rfl, run_takeDeferred hK, ?_⟩⟩
    have hE := h1.out.aside hsb (Touch.putObj (T := fun b => b = D) X D (.deferred none) rfl) (fun b hb q => by have := DZ.out.b4.lt; omega)
    exact ⟨_, results_none rfl _ _ _, rfl, Rk, hE.sol, hG, hE.tch⟩
  case stop =>
    rintro D c X h
    exact h.elim
end Go.Proofs.YtdpbapoahfggeaaDoor
