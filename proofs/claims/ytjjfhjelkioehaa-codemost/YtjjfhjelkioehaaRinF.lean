/- Contract of the document's instr: kinds 13, 14. -/
import Derived.Test.YtjjfhjelkioehaaRinC
import Derived.Test.YtjjfhjelkioehaaSm3
import Derived.Test.YtjjfhjelkioehaaRGood
namespace Go.Proofs.Ytjjfhjelkioehaa
open Go.ChangeShapes Go.WideShapes Go.ChangeAt Go.RowKit
set_option linter.unusedVariables false
set_option linter.unusedSimpArgs false

set_option maxRecDepth 100000 in
set_option maxHeartbeats 4000000 in
theorem rin13 (c : Cd) (i k : Nat) (b : Bd) (dst src rc n tt : Int) (items index : List Itm) (iv xv : Value) (w : World) (hc : c.okW w) (hs : SmallP c) (ht : c.threads[i]? = some b) (hx : b.code[k]? = some ⟨13, dst, src, rc, n, tt, items, iv, index, xv⟩)
    (hl : ∀ (j : Nat) (l : Loc), b.slots[j]? = some l → locOk c.recs.length l = true) :
    Calls Try.prog 21 #[.agg #[c.rv, c.gv, c.tv, c.ev, c.cv], .int .i64 i, .int .i64 k] w fun e w' => e = .returned (.bool (insOk c i b k ⟨13, dst, src, rc, n, tt, items, iv, index, xv⟩)) ∧ Below w.heap.size w w' := by
  obtain ⟨a0, p0, a1, p1, a2, p2, a3, p3, a4, p4, e0, e1, e2, e3, e4⟩ := cd_open hc
  have hit := (List.getElem?_eq_some_iff.1 ht).1
  have hkt := (List.getElem?_eq_some_iff.1 hx).1
  obtain ⟨at', ct, et, hT⟩ := bd_cells hc.2.2.1
  rw [e2] at et; cases et
  obtain ⟨b', bt, ot, a5, p5, a6, p6, hb', rfl, hbt, e5, e6, t0, t1, t2, bok⟩ := hT i hit
  rw [ht] at hb'; cases hb'
  obtain ⟨ac, cc, ec, hC⟩ := ins_cells bok.2.2
  rw [e6] at ec; cases ec
  obtain ⟨x', bi, oi, a7, p7, a8, p8, hx', rfl, hbi, e7, e8, ⟨d0, d1, d2, d3, d4, d5, d6, d7⟩, xok⟩ := hC k hkt
  rw [hx] at hx'; cases hx'
  simp only at e7 e8 d0 d1 d2 d3 d4 d5 d6 d7
  subst e7 e8
  have q1 := hs.l1
  have q3 := hs.l3
  have q5 := hs.l5
  have qs := hs.slots i b ht
  have qc := hs.code i b ht
  have qi := hs.items i b ht k _ hx
  simp only at qi
  obtain ⟨qi1, qi2⟩ := qi
  have ii : (i : Int) < (c.threads.length : Int) := by omega
  have kk : (k : Int) < (b.code.length : Int) := by omega
  have hsec := hc.2.2.2.2
  rw [e4] at hsec
  have Hd : hasC ⟨#[116]⟩ 100 = false := by decide
  have Hs : hasC ⟨#[116]⟩ 115 = false := by decide
  have Hr : hasC ⟨#[116]⟩ 114 = false := by decide
  have Hn : hasC ⟨#[116]⟩ 110 = false := by decide
  have Ht : hasC ⟨#[116]⟩ 116 = true := by decide
  have Hi : hasC ⟨#[116]⟩ 105 = false := by decide
  have Hx : hasC ⟨#[116]⟩ 120 = false := by decide
  have HH := fun W => Has13 W
  have Nt := fun W => in_any tt (b.code.length : Int) b.code.length rfl W
  have DI := fun (pl : Int) W (h : Below w.heap.size w W) => rinside_any (.slice a0 c.recs.length p0) (.slice a1 c.globs.length p1) (.slice (some ⟨bt, ot, none⟩) c.threads.length p2) (.slice a3 c.sites.length p3) (.slice a4 c.secs.length p4) c.secs i pl W (Secs.kept hsec h) (by omega)
  clear Nt
  have C100 : HasSays ⟨#[116]⟩ 100 false := fun W => by have h := has_any ⟨#[116]⟩ 100 W (by decide); rw [Hd] at h; exact h
  have C115 : HasSays ⟨#[116]⟩ 115 false := fun W => by have h := has_any ⟨#[116]⟩ 115 W (by decide); rw [Hs] at h; exact h
  have C114 : HasSays ⟨#[116]⟩ 114 false := fun W => by have h := has_any ⟨#[116]⟩ 114 W (by decide); rw [Hr] at h; exact h
  have C110 : HasSays ⟨#[116]⟩ 110 false := fun W => by have h := has_any ⟨#[116]⟩ 110 W (by decide); rw [Hn] at h; exact h
  have C116 : HasSays ⟨#[116]⟩ 116 true := fun W => by have h := has_any ⟨#[116]⟩ 116 W (by decide); rw [Ht] at h; exact h
  have C105 : HasSays ⟨#[116]⟩ 105 false := fun W => by have h := has_any ⟨#[116]⟩ 105 W (by decide); rw [Hi] at h; exact h
  have C120 : HasSays ⟨#[116]⟩ 120 false := fun W => by have h := has_any ⟨#[116]⟩ 120 W (by decide); rw [Hx] at h; exact h
  have hq : ((⟨#[116]⟩ : ByteArray).toList == (⟨#[63]⟩ : ByteArray).toList) = false := by first | kernel_rfl | rfl | (simp [ByteArray.toList, ByteArray.toList.loop]; done)
  have D100 : InSays dst (b.slots.length : Int) (isIn dst b.slots.length) := fun W => in_any dst (b.slots.length : Int) b.slots.length rfl W
  have D115 : InSays src (b.slots.length : Int) (isIn src b.slots.length) := fun W => in_any src (b.slots.length : Int) b.slots.length rfl W
  have D114 : InSays rc (c.recs.length : Int) (isIn rc c.recs.length) := fun W => in_any rc (c.recs.length : Int) c.recs.length rfl W
  have D105 : GoodSays w (.slice a7 items.length p7) (b.slots.length : Int) (goodB (b.slots.length : Int) items) := fun W h => by
    obtain ⟨a, cap, e, hI⟩ := (Items.kept xok.2.1 h).at
    simp only at e
    cases e
    exact rgood_any (b.slots.length : Int) a7 items.length p7 items W rfl hI (by omega) (by omega) (by omega)
  have D120 : GoodSays w (.slice a8 index.length p8) (b.slots.length : Int) (goodB (b.slots.length : Int) index) := fun W h => by
    obtain ⟨a, cap, e, hI⟩ := (Items.kept xok.2.2 h).at
    simp only at e
    cases e
    exact rgood_any (b.slots.length : Int) a8 index.length p8 index W rfl hI (by omega) (by omega) (by omega)
  rw [e0, e1, e2, e3, e4]
  have hsl := bok.2.1
  rw [e5] at hsl
  have hgl := hc.2.1
  rw [e1] at hgl
  have hre := hc.1
  rw [e0] at hre
  have hst := hc.2.2.2.1
  rw [e3] at hst
  have BB := below3 w (.cells #[.slice a0 c.recs.length p0, .slice a1 c.globs.length p1, .slice (some ⟨bt, ot, none⟩) c.threads.length p2, .slice a3 c.sites.length p3, .slice a4 c.secs.length p4] 28) (.cells #[.slice a5 b.slots.length p5, .slice (some ⟨bi, oi, none⟩) b.code.length p6, .int .i64 b.most] 39) (.cells #[.int .i64 13, .int .i64 dst, .int .i64 src, .int .i64 rc, .int .i64 n, .int .i64 tt, .slice a7 items.length p7, .slice a8 index.length p8] 33)
  have KC0 := ((BoxAt.new w #[.slice a0 c.recs.length p0, .slice a1 c.globs.length p1, .slice (some ⟨bt, ot, none⟩) c.threads.length p2, .slice a3 c.sites.length p3, .slice a4 c.secs.length p4] 28).past (.cells #[.slice a5 b.slots.length p5, .slice (some ⟨bi, oi, none⟩) b.code.length p6, .int .i64 b.most] 39)).past (.cells #[.int .i64 13, .int .i64 dst, .int .i64 src, .int .i64 rc, .int .i64 n, .int .i64 tt, .slice a7 items.length p7, .slice a8 index.length p8] 33)
  have KB0 := (BoxAt.new (w.alloc (.cells #[.slice a0 c.recs.length p0, .slice a1 c.globs.length p1, .slice (some ⟨bt, ot, none⟩) c.threads.length p2, .slice a3 c.sites.length p3, .slice a4 c.secs.length p4] 28)) #[.slice a5 b.slots.length p5, .slice (some ⟨bi, oi, none⟩) b.code.length p6, .int .i64 b.most] 39).past (.cells #[.int .i64 13, .int .i64 dst, .int .i64 src, .int .i64 rc, .int .i64 n, .int .i64 tt, .slice a7 items.length p7, .slice a8 index.length p8] 33)
  have KX0 := BoxAt.new ((w.alloc (.cells #[.slice a0 c.recs.length p0, .slice a1 c.globs.length p1, .slice (some ⟨bt, ot, none⟩) c.threads.length p2, .slice a3 c.sites.length p3, .slice a4 c.secs.length p4] 28)).alloc (.cells #[.slice a5 b.slots.length p5, .slice (some ⟨bi, oi, none⟩) b.code.length p6, .int .i64 b.most] 39)) #[.int .i64 13, .int .i64 dst, .int .i64 src, .int .i64 rc, .int .i64 n, .int .i64 tt, .slice a7 items.length p7, .slice a8 index.length p8] 33
  simp only [World.size_alloc] at KB0 KX0
  have F : Hid (insOk c i b k ⟨13, dst, src, rc, n, tt, items, .slice a7 items.length p7, index, .slice a8 index.length p8⟩ = insF c i b k ⟨13, dst, src, rc, n, tt, items, .slice a7 items.length p7, index, .slice a8 index.length p8⟩) := hid (insOk_eq _ _ _ _ _)
  generalize hrr : insOk c i b k ⟨13, dst, src, rc, n, tt, items, .slice a7 items.length p7, index, .slice a8 index.length p8⟩ = rr at *
  clear e0 e1 e2 e3 e4 e5 e6 hT hC hrr
  replace C100 := hid C100
  replace C115 := hid C115
  replace C114 := hid C114
  replace C110 := hid C110
  replace C116 := hid C116
  replace C105 := hid C105
  replace C120 := hid C120
  replace D100 := hid D100
  replace D115 := hid D115
  replace D114 := hid D114
  replace D105 := hid D105
  replace D120 := hid D120
  replace KC0 := hid KC0
  replace KB0 := hid KB0
  replace KX0 := hid KX0
  replace DI := hid DI
  replace HH := hid HH
  replace BB := hid BB
  replace hl := hid hl
  replace hsl := hid hsl
  replace hgl := hid hgl
  replace hre := hid hre
  replace hst := hid hst
  replace hc := hid hc
  replace hs := hid hs
  replace ht := hid ht
  replace hx := hid hx
  replace xok := hid xok
  replace bok := hid bok
  replace hsec := hid hsec
  replace hq := hid hq
  go_enter Try.func21, Try.ntmps21
  go_upto_region 4 with (go_at_call 43; refine Calls.mono (HH.out _) ?_; rintro e w1 ⟨rfl, hb⟩; have B1 := hid (bover BB.out hb); have KC := hid (KC0.out.kept hb); have KB := hid (KB0.out.kept hb); have KX := hid (KX0.out.kept hb); clear KC0 KB0 KX0 BB hb)
  obtain ⟨cA, hA⟩ : ∃ q, tA ⟨13, dst, src, rc, n, tt, items, .slice a7 items.length p7, index, .slice a8 index.length p8⟩ = q := ⟨_, rfl⟩
  replace hA := hid hA
  refine region4_any hq.out C100.out C115.out C114.out C110.out C116.out C105.out C120.out KX.out hA.out ?_
  intro g
  clear t0 t1 t2 d0 d1 d2 d3 d4 d5 d6 d7 Hd Hs Hr Hn Ht Hi Hx HH hq ii q1 q3 q5 qs qi1 qi2
  have h1000 : (b.code.length : Int) ≤ 1000 := by omega
  cases cA
  rotate_left
  · have G : Hid (rr = false) := hid (by rw [F.out]; simp [insF, hA.out])
    clear F DI KC KB KX hA hgl hre hst hl hsl hc hs ht hx xok bok hsec C100 C115 C114 C110 C116 C105 C120 D100 D115 D114 D105 D120
    go_wp2_with fail
    go_ret
    exact ⟨retB G.out.symm, B1.out⟩
  obtain ⟨b0, b1, b2⟩ := three0 KB.out
  go_upto_region 7 with fail
  clear b0 b1 b2
  obtain ⟨cB, hB⟩ : ∃ q, tB c b ⟨13, dst, src, rc, n, tt, items, .slice a7 items.length p7, index, .slice a8 index.length p8⟩ = q := ⟨_, rfl⟩
  replace hB := hid hB
  refine region7_any C100.out C115.out C105.out C120.out C114.out D100.out D115.out D114.out (D105.out.mono B1.out) (D120.out.mono B1.out) KX.out KC.out hB.out ?_
  intro w2 hb g2
  replace B1 := hid (bover B1.out hb)
  replace KC := hid (KC.out.kept hb)
  replace KB := hid (KB.out.kept hb)
  replace KX := hid (KX.out.kept hb)
  replace C100 : Hid (∀ W, Calls Try.prog 44 #[.string ⟨#[116]⟩, .int .u8 100] W fun e w' => e = .returned (.bool false) ∧ w' = W) := C100
  replace C115 : Hid (∀ W, Calls Try.prog 44 #[.string ⟨#[116]⟩, .int .u8 115] W fun e w' => e = .returned (.bool false) ∧ w' = W) := C115
  clear hb C105 C120 C114 D100 D115 D114 D105 D120
  cases cB
  rotate_left
  · have G : Hid (rr = false) := hid (by rw [F.out]; simp [insF, hB.out])
    clear F DI KC KB KX hgl hre hst hA hB hl hsl hc hs ht hx xok bok hsec C110 C116 C100 C115
    go_wp2_with fail
    go_ret
    exact ⟨retB G.out.symm, B1.out⟩
  replace C116 : Hid (∀ W, Calls Try.prog 44 #[.string ⟨#[116]⟩, .int .u8 116] W fun e w' => e = .returned (.bool true) ∧ w' = W) := C116
  have NT := hid (fun W => in_any tt (b.code.length : Int) b.code.length rfl W)
  cases rT : isIn tt b.code.length
  · have G : Hid (rr = false) := hid (by rw [F.out]; simp [insF, tC, tgtB, hasT, rT])
    rw [rT] at NT
    clear F hA hB DI hgl hre hst hl hsl hc hs ht hx xok bok hsec C100 C115 C110
    obtain ⟨b0, b1, b2⟩ := three0 KB.out
    obtain ⟨f0, f1, f2, f3, f4, f5, f6, f7⟩ := eight KX.out
    obtain ⟨c0, c1, c2, c3, c4⟩ := five0 KC.out
    have lb : _ < w2.heap.size := KB.out.1
    have lx : _ < w2.heap.size := KX.out.1
    have lc : _ < w2.heap.size := KC.out.1
    go_wp2_with fail
    go_quiet ((first | (go_at_call 44; exact Calls.quiet_of_same (C116.out _)) | (go_at_call 20; exact Calls.quiet_of_same (NT.out _))))
    go_wp2_with fail
    go_ret
    exact ⟨retB G.out.symm, quietB B1.out nq⟩
  rw [rT] at NT
  cases he : (inside c.secs i k != inside c.secs i tt)
  rotate_left
  · have G : Hid (rr = false) := hid (by
      have he2 : ¬ inside c.secs i tt = inside c.secs i k := by intro q; simp [q] at he
      rw [F.out]; simp [insF, tC, tgtB, hasT, rT, he2])
    clear F hA hB hgl hre hst hl hsl hc hs ht hx xok bok hsec C100 C115 C110
    go_wp2_with fail
    refine wp_region_held_drew (S := fun (w' : World) => (w'.cell? ⟨w.heap.size, 0, none⟩ = some (.slice a0 c.recs.length p0) ∧ w'.cell? ⟨w.heap.size, 1, none⟩ = some (.slice a1 c.globs.length p1) ∧ w'.cell? ⟨w.heap.size, 2, none⟩ = some (.slice (some ⟨bt, ot, none⟩) c.threads.length p2) ∧ w'.cell? ⟨w.heap.size, 3, none⟩ = some (.slice a3 c.sites.length p3) ∧ w'.cell? ⟨w.heap.size, 4, none⟩ = some (.slice a4 c.secs.length p4)) ∧ (w'.cell? ⟨w.heap.size + 1, 0, none⟩ = some (.slice a5 b.slots.length p5) ∧ w'.cell? ⟨w.heap.size + 1, 1, none⟩ = some (.slice (some ⟨bi, oi, none⟩) b.code.length p6) ∧ w'.cell? ⟨w.heap.size + 1, 2, none⟩ = some (.int .i64 b.most)) ∧ (w'.cell? ⟨w.heap.size + 1 + 1, 0, none⟩ = some (.int .i64 13) ∧ w'.cell? ⟨w.heap.size + 1 + 1, 1, none⟩ = some (.int .i64 dst) ∧ w'.cell? ⟨w.heap.size + 1 + 1, 2, none⟩ = some (.int .i64 src) ∧ w'.cell? ⟨w.heap.size + 1 + 1, 3, none⟩ = some (.int .i64 rc) ∧ w'.cell? ⟨w.heap.size + 1 + 1, 4, none⟩ = some (.int .i64 n) ∧ w'.cell? ⟨w.heap.size + 1 + 1, 5, none⟩ = some (.int .i64 tt) ∧ w'.cell? ⟨w.heap.size + 1 + 1, 6, none⟩ = some (.slice a7 items.length p7) ∧ w'.cell? ⟨w.heap.size + 1 + 1, 7, none⟩ = some (.slice a8 index.length p8))) (by kernel_rfl) (s16 KC.out.drew KB.out.drew KX.out.drew) (fun hHeld => ?_)
    refine wpAnyH_take (i := 0) (oi := { dst := some 159, op := Go.Op.move (Go.Operand.tmp 9), type := 9, pos := "ref.go:120", after := #[], guard := none }) (v := ?_) rfl (by kernel_rfl) (by kernel_rfl) (by kernel_rfl) (fun _ _ _ h => h) (Or.inl ⟨by rfl, ?_⟩) hHeld ?_
    rotate_left
    · intro w0 hSw; (try dsimp only at hSw); go_simp; (try with_reducible rfl)
    try simp only [Act.put, List.setIfInBounds_toArray, List.set_cons_zero, List.set_cons_succ]
    refine wpAnyH_ready (rs := [1]) (by kernel_rfl) (by simp) ?_
    refine AllReadyH.cons (o := { dst := some 160, op := Go.Op.call { callee := Go.Callee.value (Go.Operand.func 44), args := #[Go.Operand.tmp 159, Go.Operand.const (Go.Value.int Go.IntKind.u8 116)], argTypes := #[9, 5] }, type := 4, pos := "ref.go:120", after := #[{ on := 0, ground := Go.Ground.data }], guard := none }) rfl (fun K' hK' => ?_) AllReadyH.nil
    go_simp
    go_at_call 44
    refine Calls.mono (C116.out _) ?_
    rintro e w9 ⟨rfl, rfl⟩
    refine hK'.out _ _ hHeld (fun hHeld => ?_)
    clear hK' K'
    try simp only [Act.put, List.setIfInBounds_toArray, List.set_cons_zero, List.set_cons_succ]
    refine wpAnyH_take (i := 2) (oi := { dst := some 161, op := Go.Op.move (Go.Operand.tmp 160), type := 4, pos := "ref.go:120", after := #[{ on := 1, ground := Go.Ground.data }, { on := 1, ground := Go.Ground.chain }], guard := none }) (v := ?_) rfl (by kernel_rfl) (by kernel_rfl) (by kernel_rfl) (fun _ _ _ h => h) (Or.inl ⟨by rfl, ?_⟩) hHeld ?_
    rotate_left
    · intro w0 hSw; (try dsimp only at hSw); go_simp; (try with_reducible rfl)
    try simp only [Act.put, List.setIfInBounds_toArray, List.set_cons_zero, List.set_cons_succ]
    refine wpAnyH_take (i := 3) (oi := { dst := some 162, op := Go.Op.fieldAddr 33 (Go.Operand.tmp 8) 5, type := 0, pos := "ref.go:120", after := #[{ on := 2, ground := Go.Ground.guard }], guard := some (2, true) }) (v := ?_) rfl (by kernel_rfl) (by kernel_rfl) (by kernel_rfl) (fun _ _ _ h => h) (Or.inl ⟨by rfl, ?_⟩) hHeld ?_
    rotate_left
    · intro w0 hSw; (try dsimp only at hSw); go_simp; (try with_reducible rfl)
    try simp only [Act.put, List.setIfInBounds_toArray, List.set_cons_zero, List.set_cons_succ]
    refine wpAnyH_take (i := 4) (oi := { dst := some 163, op := Go.Op.load 3 (Go.Operand.tmp 162), type := 3, pos := "ref.go:120", after := #[{ on := 3, ground := Go.Ground.data }, { on := 2, ground := Go.Ground.guard }], guard := some (2, true) }) (v := ?_) rfl (by kernel_rfl) (by kernel_rfl) (by kernel_rfl) (fun _ _ _ h => h) (Or.inl ⟨by rfl, ?_⟩) hHeld ?_
    rotate_left
    · intro w0 hSw; (try dsimp only at hSw); go_simp; (try with_reducible rfl)
    try simp only [Act.put, List.setIfInBounds_toArray, List.set_cons_zero, List.set_cons_succ]
    refine wpAnyH_take (i := 5) (oi := { dst := some 164, op := Go.Op.fieldAddr 39 (Go.Operand.tmp 7) 1, type := 0, pos := "ref.go:120", after := #[{ on := 2, ground := Go.Ground.guard }], guard := some (2, true) }) (v := ?_) rfl (by kernel_rfl) (by kernel_rfl) (by kernel_rfl) (fun _ _ _ h => h) (Or.inl ⟨by rfl, ?_⟩) hHeld ?_
    rotate_left
    · intro w0 hSw; (try dsimp only at hSw); go_simp; (try with_reducible rfl)
    try simp only [Act.put, List.setIfInBounds_toArray, List.set_cons_zero, List.set_cons_succ]
    refine wpAnyH_take (i := 6) (oi := { dst := some 165, op := Go.Op.load 37 (Go.Operand.tmp 164), type := 37, pos := "ref.go:120", after := #[{ on := 5, ground := Go.Ground.data }, { on := 2, ground := Go.Ground.guard }], guard := some (2, true) }) (v := ?_) rfl (by kernel_rfl) (by kernel_rfl) (by kernel_rfl) (fun _ _ _ h => h) (Or.inl ⟨by rfl, ?_⟩) hHeld ?_
    rotate_left
    · intro w0 hSw; (try dsimp only at hSw); go_simp; (try with_reducible rfl)
    try simp only [Act.put, List.setIfInBounds_toArray, List.set_cons_zero, List.set_cons_succ]
    refine wpAnyH_take (i := 7) (oi := { dst := some 166, op := Go.Op.call { callee := Go.Callee.builtin Go.Builtin.len, args := #[Go.Operand.tmp 165], argTypes := #[37] }, type := 3, pos := "ref.go:120", after := #[{ on := 6, ground := Go.Ground.data }, { on := 2, ground := Go.Ground.guard }], guard := some (2, true) }) (v := ?_) rfl (by kernel_rfl) (by kernel_rfl) (by kernel_rfl) (fun _ _ _ h => h) (Or.inl ⟨by rfl, ?_⟩) hHeld ?_
    rotate_left
    · intro w0 hSw; (try dsimp only at hSw); go_simp; (try with_reducible rfl)
    try simp only [Act.put, List.setIfInBounds_toArray, List.set_cons_zero, List.set_cons_succ]
    refine wpAnyH_ready (rs := [8]) (by kernel_rfl) (by simp) ?_
    refine AllReadyH.cons (o := { dst := some 167, op := Go.Op.call { callee := Go.Callee.value (Go.Operand.func 20), args := #[Go.Operand.tmp 163, Go.Operand.tmp 166], argTypes := #[3, 3] }, type := 4, pos := "ref.go:120", after := #[{ on := 4, ground := Go.Ground.data }, { on := 7, ground := Go.Ground.data }, { on := 2, ground := Go.Ground.chain }, { on := 2, ground := Go.Ground.guard }], guard := some (2, true) }) rfl (fun K' hK' => ?_) AllReadyH.nil
    go_simp
    go_at_call 20
    refine Calls.mono (NT.out _) ?_
    rintro e w9 ⟨rfl, rfl⟩
    refine hK'.out _ _ hHeld (fun hHeld => ?_)
    clear hK' K'
    try simp only [Act.put, List.setIfInBounds_toArray, List.set_cons_zero, List.set_cons_succ]
    refine wpAnyH_take (i := 9) (oi := { dst := some 168, op := Go.Op.unOp Go.UnOp.not 4 (Go.Operand.tmp 167), type := 4, pos := "ref.go:120", after := #[{ on := 8, ground := Go.Ground.data }, { on := 2, ground := Go.Ground.guard }], guard := some (2, true) }) (v := ?_) rfl (by kernel_rfl) (by kernel_rfl) (by kernel_rfl) (fun _ _ _ h => h) (Or.inl ⟨by rfl, ?_⟩) hHeld ?_
    rotate_left
    · intro w0 hSw; (try dsimp only at hSw); go_simp; (try with_reducible rfl)
    try simp only [Act.put, List.setIfInBounds_toArray, List.set_cons_zero, List.set_cons_succ]
    refine wpAnyH_take (i := 10) (oi := { dst := some 169, op := Go.Op.move (Go.Operand.tmp 168), type := 4, pos := "ref.go:120", after := #[{ on := 9, ground := Go.Ground.data }, { on := 8, ground := Go.Ground.chain }, { on := 2, ground := Go.Ground.guard }], guard := some (2, true) }) (v := ?_) rfl (by kernel_rfl) (by kernel_rfl) (by kernel_rfl) (fun _ _ _ h => h) (Or.inl ⟨by rfl, ?_⟩) hHeld ?_
    rotate_left
    · intro w0 hSw; (try dsimp only at hSw); go_simp; (try with_reducible rfl)
    try simp only [Act.put, List.setIfInBounds_toArray, List.set_cons_zero, List.set_cons_succ]
    refine wpAnyH_take (i := 11) (oi := { dst := some 170, op := Go.Op.load 28 (Go.Operand.tmp 3), type := 28, pos := "ref.go:120", after := #[{ on := 10, ground := Go.Ground.guard }], guard := some (10, false) }) (v := ?_) rfl (by kernel_rfl) (by kernel_rfl) (by kernel_rfl) (fun _ _ _ h => h) (Or.inl ⟨by rfl, ?_⟩) hHeld ?_
    rotate_left
    · intro w0 hSw; (try dsimp only at hSw); go_simp; (try with_reducible rfl)
    try simp only [Act.put, List.setIfInBounds_toArray, List.set_cons_zero, List.set_cons_succ]
    refine wpAnyH_take (i := 12) (oi := { dst := some 171, op := Go.Op.move (Go.Operand.tmp 1), type := 3, pos := "ref.go:120", after := #[{ on := 10, ground := Go.Ground.guard }], guard := some (10, false) }) (v := ?_) rfl (by kernel_rfl) (by kernel_rfl) (by kernel_rfl) (fun _ _ _ h => h) (Or.inl ⟨by rfl, ?_⟩) hHeld ?_
    rotate_left
    · intro w0 hSw; (try dsimp only at hSw); go_simp; (try with_reducible rfl)
    try simp only [Act.put, List.setIfInBounds_toArray, List.set_cons_zero, List.set_cons_succ]
    refine wpAnyH_take (i := 13) (oi := { dst := some 172, op := Go.Op.move (Go.Operand.tmp 2), type := 3, pos := "ref.go:120", after := #[{ on := 10, ground := Go.Ground.guard }], guard := some (10, false) }) (v := ?_) rfl (by kernel_rfl) (by kernel_rfl) (by kernel_rfl) (fun _ _ _ h => h) (Or.inl ⟨by rfl, ?_⟩) hHeld ?_
    rotate_left
    · intro w0 hSw; (try dsimp only at hSw); go_simp; (try with_reducible rfl)
    try simp only [Act.put, List.setIfInBounds_toArray, List.set_cons_zero, List.set_cons_succ]
    refine wpAnyH_take (i := 15) (oi := { dst := some 174, op := Go.Op.load 28 (Go.Operand.tmp 3), type := 28, pos := "ref.go:120", after := #[{ on := 10, ground := Go.Ground.guard }], guard := some (10, false) }) (v := ?_) rfl (by kernel_rfl) (by kernel_rfl) (by kernel_rfl) (fun _ _ _ h => h) (Or.inl ⟨by rfl, ?_⟩) hHeld ?_
    rotate_left
    · intro w0 hSw; (try dsimp only at hSw); go_simp; (try with_reducible rfl)
    try simp only [Act.put, List.setIfInBounds_toArray, List.set_cons_zero, List.set_cons_succ]
    refine wpAnyH_take (i := 16) (oi := { dst := some 175, op := Go.Op.move (Go.Operand.tmp 1), type := 3, pos := "ref.go:120", after := #[{ on := 10, ground := Go.Ground.guard }], guard := some (10, false) }) (v := ?_) rfl (by kernel_rfl) (by kernel_rfl) (by kernel_rfl) (fun _ _ _ h => h) (Or.inl ⟨by rfl, ?_⟩) hHeld ?_
    rotate_left
    · intro w0 hSw; (try dsimp only at hSw); go_simp; (try with_reducible rfl)
    try simp only [Act.put, List.setIfInBounds_toArray, List.set_cons_zero, List.set_cons_succ]
    refine wpAnyH_take (i := 17) (oi := { dst := some 176, op := Go.Op.fieldAddr 33 (Go.Operand.tmp 8) 5, type := 0, pos := "ref.go:120", after := #[{ on := 10, ground := Go.Ground.guard }], guard := some (10, false) }) (v := ?_) rfl (by kernel_rfl) (by kernel_rfl) (by kernel_rfl) (fun _ _ _ h => h) (Or.inl ⟨by rfl, ?_⟩) hHeld ?_
    rotate_left
    · intro w0 hSw; (try dsimp only at hSw); go_simp; (try with_reducible rfl)
    try simp only [Act.put, List.setIfInBounds_toArray, List.set_cons_zero, List.set_cons_succ]
    refine wpAnyH_take (i := 18) (oi := { dst := some 177, op := Go.Op.load 3 (Go.Operand.tmp 176), type := 3, pos := "ref.go:120", after := #[{ on := 17, ground := Go.Ground.data }, { on := 10, ground := Go.Ground.guard }], guard := some (10, false) }) (v := ?_) rfl (by kernel_rfl) (by kernel_rfl) (by kernel_rfl) (fun _ _ _ h => h) (Or.inl ⟨by rfl, ?_⟩) hHeld ?_
    rotate_left
    · intro w0 hSw; (try dsimp only at hSw); go_simp; (try with_reducible rfl)
    try simp only [Act.put, List.setIfInBounds_toArray, List.set_cons_zero, List.set_cons_succ]
    refine wpAnyH_ready (rs := [14]) (by kernel_rfl) (by simp) ?_
    refine AllReadyH.cons (o := { dst := some 173, op := Go.Op.call { callee := Go.Callee.value (Go.Operand.func 12), args := #[Go.Operand.tmp 170, Go.Operand.tmp 171, Go.Operand.tmp 172], argTypes := #[28, 3, 3] }, type := 3, pos := "ref.go:120", after := #[{ on := 11, ground := Go.Ground.data }, { on := 12, ground := Go.Ground.data }, { on := 13, ground := Go.Ground.data }, { on := 10, ground := Go.Ground.chain }, { on := 10, ground := Go.Ground.guard }], guard := some (10, false) }) rfl (fun K' hK' => ?_) AllReadyH.nil
    go_simp
    have B9 := hid B1.out.drew
    have KC9 := hid KC.out.drew
    have KB9 := hid KB.out.drew
    have KX9 := hid KX.out.drew
    replace B1 := B9
    replace KC := KC9
    replace KB := KB9
    replace KX := KX9
    clear B9 KC9 KB9 KX9
    go_at_call 12
    refine Calls.mono (DI.out _ _ B1.out) ?_
    rintro e y1 ⟨rfl, hb⟩
    replace B1 := hid (bover B1.out hb)
    replace KC := hid (KC.out.kept hb)
    replace KB := hid (KB.out.kept hb)
    replace KX := hid (KX.out.kept hb)
    clear hb
    have hz := hid (s16 KC.out KB.out KX.out)
    refine hK'.out _ _ hz.out (fun hHeld => ?_)
    clear hK' K'
    try simp only [Act.put, List.setIfInBounds_toArray, List.set_cons_zero, List.set_cons_succ]
    refine wpAnyH_ready (rs := [19]) (by kernel_rfl) (by simp) ?_
    refine AllReadyH.cons (o := { dst := some 178, op := Go.Op.call { callee := Go.Callee.value (Go.Operand.func 12), args := #[Go.Operand.tmp 174, Go.Operand.tmp 175, Go.Operand.tmp 177], argTypes := #[28, 3, 3] }, type := 3, pos := "ref.go:120", after := #[{ on := 15, ground := Go.Ground.data }, { on := 16, ground := Go.Ground.data }, { on := 18, ground := Go.Ground.data }, { on := 14, ground := Go.Ground.chain }, { on := 10, ground := Go.Ground.guard }], guard := some (10, false) }) rfl (fun K' hK' => ?_) AllReadyH.nil
    go_simp
    go_at_call 12
    refine Calls.mono (DI.out _ _ B1.out) ?_
    rintro e y2 ⟨rfl, hb⟩
    replace B1 := hid (bover B1.out hb)
    replace KC := hid (KC.out.kept hb)
    replace KB := hid (KB.out.kept hb)
    replace KX := hid (KX.out.kept hb)
    clear hb
    have hz := hid (s16 KC.out KB.out KX.out)
    refine hK'.out _ _ hz.out (fun hHeld => ?_)
    clear hK' K'
    try simp only [Act.put, List.setIfInBounds_toArray, List.set_cons_zero, List.set_cons_succ]
    refine wpAnyH_take (i := 20) (oi := { dst := some 179, op := Go.Op.binOp Go.BinOp.neq 3 (Go.Operand.tmp 173) (Go.Operand.tmp 178) 3, type := 4, pos := "ref.go:120", after := #[{ on := 14, ground := Go.Ground.data }, { on := 19, ground := Go.Ground.data }, { on := 10, ground := Go.Ground.guard }], guard := some (10, false) }) (v := ?_) rfl (by kernel_rfl) (by kernel_rfl) (by kernel_rfl) (fun _ _ _ h => h) (Or.inl ⟨by rfl, ?_⟩) hHeld ?_
    rotate_left
    · intro w0 hSw; (try dsimp only at hSw); go_simp; (try with_reducible rfl)
    try simp only [Act.put, List.setIfInBounds_toArray, List.set_cons_zero, List.set_cons_succ]
    refine wpAnyH_take (i := 21) (oi := { dst := some 180, op := Go.Op.pick (Go.Operand.tmp 169) (Go.Operand.const (Go.Value.bool true)) (Go.Operand.tmp 179), type := 4, pos := "ref.go:120", after := #[{ on := 10, ground := Go.Ground.data }, { on := 20, ground := Go.Ground.data }, { on := 2, ground := Go.Ground.guard }], guard := some (2, true) }) (v := ?_) rfl (by kernel_rfl) (by kernel_rfl) (by kernel_rfl) (fun _ _ _ h => h) (Or.inl ⟨by rfl, ?_⟩) hHeld ?_
    rotate_left
    · intro w0 hSw; (try dsimp only at hSw); go_simp; (try with_reducible rfl)
    try simp only [Act.put, List.setIfInBounds_toArray, List.set_cons_zero, List.set_cons_succ]
    refine wpAnyH_take (i := 22) (oi := { dst := some 181, op := Go.Op.pick (Go.Operand.tmp 161) (Go.Operand.tmp 180) (Go.Operand.const (Go.Value.bool false)), type := 4, pos := "ref.go:120", after := #[{ on := 2, ground := Go.Ground.data }, { on := 21, ground := Go.Ground.data }], guard := none }) (v := ?_) rfl (by kernel_rfl) (by kernel_rfl) (by kernel_rfl) (fun _ _ _ h => h) (Or.inl ⟨by rfl, ?_⟩) hHeld ?_
    rotate_left
    · intro w0 hSw; (try dsimp only at hSw); go_simp; (try with_reducible rfl)
    try simp only [Act.put, List.setIfInBounds_toArray, List.set_cons_zero, List.set_cons_succ]
    refine wpAnyH_done (by kernel_rfl) ?_ _
    clear hHeld
    go_wp2_with fail
    go_ret
    exact ⟨retB G.out.symm, B1.out⟩
  have hC3 : Hid (tC c i b k ⟨13, dst, src, rc, n, tt, items, .slice a7 items.length p7, index, .slice a8 index.length p8⟩ = false) := hid (by
    have he2 : inside c.secs i tt = inside c.secs i k := by simpa using (Eq.symm (by simpa using he))
    simp [tC, tgtB, hasT, rT, he2])
  go_wp2_with fail
  refine wp_region_held_drew (S := fun (w' : World) => (w'.cell? ⟨w.heap.size, 0, none⟩ = some (.slice a0 c.recs.length p0) ∧ w'.cell? ⟨w.heap.size, 1, none⟩ = some (.slice a1 c.globs.length p1) ∧ w'.cell? ⟨w.heap.size, 2, none⟩ = some (.slice (some ⟨bt, ot, none⟩) c.threads.length p2) ∧ w'.cell? ⟨w.heap.size, 3, none⟩ = some (.slice a3 c.sites.length p3) ∧ w'.cell? ⟨w.heap.size, 4, none⟩ = some (.slice a4 c.secs.length p4)) ∧ (w'.cell? ⟨w.heap.size + 1, 0, none⟩ = some (.slice a5 b.slots.length p5) ∧ w'.cell? ⟨w.heap.size + 1, 1, none⟩ = some (.slice (some ⟨bi, oi, none⟩) b.code.length p6) ∧ w'.cell? ⟨w.heap.size + 1, 2, none⟩ = some (.int .i64 b.most)) ∧ (w'.cell? ⟨w.heap.size + 1 + 1, 0, none⟩ = some (.int .i64 13) ∧ w'.cell? ⟨w.heap.size + 1 + 1, 1, none⟩ = some (.int .i64 dst) ∧ w'.cell? ⟨w.heap.size + 1 + 1, 2, none⟩ = some (.int .i64 src) ∧ w'.cell? ⟨w.heap.size + 1 + 1, 3, none⟩ = some (.int .i64 rc) ∧ w'.cell? ⟨w.heap.size + 1 + 1, 4, none⟩ = some (.int .i64 n) ∧ w'.cell? ⟨w.heap.size + 1 + 1, 5, none⟩ = some (.int .i64 tt) ∧ w'.cell? ⟨w.heap.size + 1 + 1, 6, none⟩ = some (.slice a7 items.length p7) ∧ w'.cell? ⟨w.heap.size + 1 + 1, 7, none⟩ = some (.slice a8 index.length p8))) (by kernel_rfl) (s16 KC.out.drew KB.out.drew KX.out.drew) (fun hHeld => ?_)
  refine wpAnyH_take (i := 0) (oi := { dst := some 159, op := Go.Op.move (Go.Operand.tmp 9), type := 9, pos := "ref.go:120", after := #[], guard := none }) (v := ?_) rfl (by kernel_rfl) (by kernel_rfl) (by kernel_rfl) (fun _ _ _ h => h) (Or.inl ⟨by rfl, ?_⟩) hHeld ?_
  rotate_left
  · intro w0 hSw; (try dsimp only at hSw); go_simp; (try with_reducible rfl)
  try simp only [Act.put, List.setIfInBounds_toArray, List.set_cons_zero, List.set_cons_succ]
  refine wpAnyH_ready (rs := [1]) (by kernel_rfl) (by simp) ?_
  refine AllReadyH.cons (o := { dst := some 160, op := Go.Op.call { callee := Go.Callee.value (Go.Operand.func 44), args := #[Go.Operand.tmp 159, Go.Operand.const (Go.Value.int Go.IntKind.u8 116)], argTypes := #[9, 5] }, type := 4, pos := "ref.go:120", after := #[{ on := 0, ground := Go.Ground.data }], guard := none }) rfl (fun K' hK' => ?_) AllReadyH.nil
  go_simp
  go_at_call 44
  refine Calls.mono (C116.out _) ?_
  rintro e w9 ⟨rfl, rfl⟩
  refine hK'.out _ _ hHeld (fun hHeld => ?_)
  clear hK' K'
  try simp only [Act.put, List.setIfInBounds_toArray, List.set_cons_zero, List.set_cons_succ]
  refine wpAnyH_take (i := 2) (oi := { dst := some 161, op := Go.Op.move (Go.Operand.tmp 160), type := 4, pos := "ref.go:120", after := #[{ on := 1, ground := Go.Ground.data }, { on := 1, ground := Go.Ground.chain }], guard := none }) (v := ?_) rfl (by kernel_rfl) (by kernel_rfl) (by kernel_rfl) (fun _ _ _ h => h) (Or.inl ⟨by rfl, ?_⟩) hHeld ?_
  rotate_left
  · intro w0 hSw; (try dsimp only at hSw); go_simp; (try with_reducible rfl)
  try simp only [Act.put, List.setIfInBounds_toArray, List.set_cons_zero, List.set_cons_succ]
  refine wpAnyH_take (i := 3) (oi := { dst := some 162, op := Go.Op.fieldAddr 33 (Go.Operand.tmp 8) 5, type := 0, pos := "ref.go:120", after := #[{ on := 2, ground := Go.Ground.guard }], guard := some (2, true) }) (v := ?_) rfl (by kernel_rfl) (by kernel_rfl) (by kernel_rfl) (fun _ _ _ h => h) (Or.inl ⟨by rfl, ?_⟩) hHeld ?_
  rotate_left
  · intro w0 hSw; (try dsimp only at hSw); go_simp; (try with_reducible rfl)
  try simp only [Act.put, List.setIfInBounds_toArray, List.set_cons_zero, List.set_cons_succ]
  refine wpAnyH_take (i := 4) (oi := { dst := some 163, op := Go.Op.load 3 (Go.Operand.tmp 162), type := 3, pos := "ref.go:120", after := #[{ on := 3, ground := Go.Ground.data }, { on := 2, ground := Go.Ground.guard }], guard := some (2, true) }) (v := ?_) rfl (by kernel_rfl) (by kernel_rfl) (by kernel_rfl) (fun _ _ _ h => h) (Or.inl ⟨by rfl, ?_⟩) hHeld ?_
  rotate_left
  · intro w0 hSw; (try dsimp only at hSw); go_simp; (try with_reducible rfl)
  try simp only [Act.put, List.setIfInBounds_toArray, List.set_cons_zero, List.set_cons_succ]
  refine wpAnyH_take (i := 5) (oi := { dst := some 164, op := Go.Op.fieldAddr 39 (Go.Operand.tmp 7) 1, type := 0, pos := "ref.go:120", after := #[{ on := 2, ground := Go.Ground.guard }], guard := some (2, true) }) (v := ?_) rfl (by kernel_rfl) (by kernel_rfl) (by kernel_rfl) (fun _ _ _ h => h) (Or.inl ⟨by rfl, ?_⟩) hHeld ?_
  rotate_left
  · intro w0 hSw; (try dsimp only at hSw); go_simp; (try with_reducible rfl)
  try simp only [Act.put, List.setIfInBounds_toArray, List.set_cons_zero, List.set_cons_succ]
  refine wpAnyH_take (i := 6) (oi := { dst := some 165, op := Go.Op.load 37 (Go.Operand.tmp 164), type := 37, pos := "ref.go:120", after := #[{ on := 5, ground := Go.Ground.data }, { on := 2, ground := Go.Ground.guard }], guard := some (2, true) }) (v := ?_) rfl (by kernel_rfl) (by kernel_rfl) (by kernel_rfl) (fun _ _ _ h => h) (Or.inl ⟨by rfl, ?_⟩) hHeld ?_
  rotate_left
  · intro w0 hSw; (try dsimp only at hSw); go_simp; (try with_reducible rfl)
  try simp only [Act.put, List.setIfInBounds_toArray, List.set_cons_zero, List.set_cons_succ]
  refine wpAnyH_take (i := 7) (oi := { dst := some 166, op := Go.Op.call { callee := Go.Callee.builtin Go.Builtin.len, args := #[Go.Operand.tmp 165], argTypes := #[37] }, type := 3, pos := "ref.go:120", after := #[{ on := 6, ground := Go.Ground.data }, { on := 2, ground := Go.Ground.guard }], guard := some (2, true) }) (v := ?_) rfl (by kernel_rfl) (by kernel_rfl) (by kernel_rfl) (fun _ _ _ h => h) (Or.inl ⟨by rfl, ?_⟩) hHeld ?_
  rotate_left
  · intro w0 hSw; (try dsimp only at hSw); go_simp; (try with_reducible rfl)
  try simp only [Act.put, List.setIfInBounds_toArray, List.set_cons_zero, List.set_cons_succ]
  refine wpAnyH_ready (rs := [8]) (by kernel_rfl) (by simp) ?_
  refine AllReadyH.cons (o := { dst := some 167, op := Go.Op.call { callee := Go.Callee.value (Go.Operand.func 20), args := #[Go.Operand.tmp 163, Go.Operand.tmp 166], argTypes := #[3, 3] }, type := 4, pos := "ref.go:120", after := #[{ on := 4, ground := Go.Ground.data }, { on := 7, ground := Go.Ground.data }, { on := 2, ground := Go.Ground.chain }, { on := 2, ground := Go.Ground.guard }], guard := some (2, true) }) rfl (fun K' hK' => ?_) AllReadyH.nil
  go_simp
  go_at_call 20
  refine Calls.mono (NT.out _) ?_
  rintro e w9 ⟨rfl, rfl⟩
  refine hK'.out _ _ hHeld (fun hHeld => ?_)
  clear hK' K'
  try simp only [Act.put, List.setIfInBounds_toArray, List.set_cons_zero, List.set_cons_succ]
  refine wpAnyH_take (i := 9) (oi := { dst := some 168, op := Go.Op.unOp Go.UnOp.not 4 (Go.Operand.tmp 167), type := 4, pos := "ref.go:120", after := #[{ on := 8, ground := Go.Ground.data }, { on := 2, ground := Go.Ground.guard }], guard := some (2, true) }) (v := ?_) rfl (by kernel_rfl) (by kernel_rfl) (by kernel_rfl) (fun _ _ _ h => h) (Or.inl ⟨by rfl, ?_⟩) hHeld ?_
  rotate_left
  · intro w0 hSw; (try dsimp only at hSw); go_simp; (try with_reducible rfl)
  try simp only [Act.put, List.setIfInBounds_toArray, List.set_cons_zero, List.set_cons_succ]
  refine wpAnyH_take (i := 10) (oi := { dst := some 169, op := Go.Op.move (Go.Operand.tmp 168), type := 4, pos := "ref.go:120", after := #[{ on := 9, ground := Go.Ground.data }, { on := 8, ground := Go.Ground.chain }, { on := 2, ground := Go.Ground.guard }], guard := some (2, true) }) (v := ?_) rfl (by kernel_rfl) (by kernel_rfl) (by kernel_rfl) (fun _ _ _ h => h) (Or.inl ⟨by rfl, ?_⟩) hHeld ?_
  rotate_left
  · intro w0 hSw; (try dsimp only at hSw); go_simp; (try with_reducible rfl)
  try simp only [Act.put, List.setIfInBounds_toArray, List.set_cons_zero, List.set_cons_succ]
  refine wpAnyH_take (i := 11) (oi := { dst := some 170, op := Go.Op.load 28 (Go.Operand.tmp 3), type := 28, pos := "ref.go:120", after := #[{ on := 10, ground := Go.Ground.guard }], guard := some (10, false) }) (v := ?_) rfl (by kernel_rfl) (by kernel_rfl) (by kernel_rfl) (fun _ _ _ h => h) (Or.inl ⟨by rfl, ?_⟩) hHeld ?_
  rotate_left
  · intro w0 hSw; (try dsimp only at hSw); go_simp; (try with_reducible rfl)
  try simp only [Act.put, List.setIfInBounds_toArray, List.set_cons_zero, List.set_cons_succ]
  refine wpAnyH_take (i := 12) (oi := { dst := some 171, op := Go.Op.move (Go.Operand.tmp 1), type := 3, pos := "ref.go:120", after := #[{ on := 10, ground := Go.Ground.guard }], guard := some (10, false) }) (v := ?_) rfl (by kernel_rfl) (by kernel_rfl) (by kernel_rfl) (fun _ _ _ h => h) (Or.inl ⟨by rfl, ?_⟩) hHeld ?_
  rotate_left
  · intro w0 hSw; (try dsimp only at hSw); go_simp; (try with_reducible rfl)
  try simp only [Act.put, List.setIfInBounds_toArray, List.set_cons_zero, List.set_cons_succ]
  refine wpAnyH_take (i := 13) (oi := { dst := some 172, op := Go.Op.move (Go.Operand.tmp 2), type := 3, pos := "ref.go:120", after := #[{ on := 10, ground := Go.Ground.guard }], guard := some (10, false) }) (v := ?_) rfl (by kernel_rfl) (by kernel_rfl) (by kernel_rfl) (fun _ _ _ h => h) (Or.inl ⟨by rfl, ?_⟩) hHeld ?_
  rotate_left
  · intro w0 hSw; (try dsimp only at hSw); go_simp; (try with_reducible rfl)
  try simp only [Act.put, List.setIfInBounds_toArray, List.set_cons_zero, List.set_cons_succ]
  refine wpAnyH_take (i := 15) (oi := { dst := some 174, op := Go.Op.load 28 (Go.Operand.tmp 3), type := 28, pos := "ref.go:120", after := #[{ on := 10, ground := Go.Ground.guard }], guard := some (10, false) }) (v := ?_) rfl (by kernel_rfl) (by kernel_rfl) (by kernel_rfl) (fun _ _ _ h => h) (Or.inl ⟨by rfl, ?_⟩) hHeld ?_
  rotate_left
  · intro w0 hSw; (try dsimp only at hSw); go_simp; (try with_reducible rfl)
  try simp only [Act.put, List.setIfInBounds_toArray, List.set_cons_zero, List.set_cons_succ]
  refine wpAnyH_take (i := 16) (oi := { dst := some 175, op := Go.Op.move (Go.Operand.tmp 1), type := 3, pos := "ref.go:120", after := #[{ on := 10, ground := Go.Ground.guard }], guard := some (10, false) }) (v := ?_) rfl (by kernel_rfl) (by kernel_rfl) (by kernel_rfl) (fun _ _ _ h => h) (Or.inl ⟨by rfl, ?_⟩) hHeld ?_
  rotate_left
  · intro w0 hSw; (try dsimp only at hSw); go_simp; (try with_reducible rfl)
  try simp only [Act.put, List.setIfInBounds_toArray, List.set_cons_zero, List.set_cons_succ]
  refine wpAnyH_take (i := 17) (oi := { dst := some 176, op := Go.Op.fieldAddr 33 (Go.Operand.tmp 8) 5, type := 0, pos := "ref.go:120", after := #[{ on := 10, ground := Go.Ground.guard }], guard := some (10, false) }) (v := ?_) rfl (by kernel_rfl) (by kernel_rfl) (by kernel_rfl) (fun _ _ _ h => h) (Or.inl ⟨by rfl, ?_⟩) hHeld ?_
  rotate_left
  · intro w0 hSw; (try dsimp only at hSw); go_simp; (try with_reducible rfl)
  try simp only [Act.put, List.setIfInBounds_toArray, List.set_cons_zero, List.set_cons_succ]
  refine wpAnyH_take (i := 18) (oi := { dst := some 177, op := Go.Op.load 3 (Go.Operand.tmp 176), type := 3, pos := "ref.go:120", after := #[{ on := 17, ground := Go.Ground.data }, { on := 10, ground := Go.Ground.guard }], guard := some (10, false) }) (v := ?_) rfl (by kernel_rfl) (by kernel_rfl) (by kernel_rfl) (fun _ _ _ h => h) (Or.inl ⟨by rfl, ?_⟩) hHeld ?_
  rotate_left
  · intro w0 hSw; (try dsimp only at hSw); go_simp; (try with_reducible rfl)
  try simp only [Act.put, List.setIfInBounds_toArray, List.set_cons_zero, List.set_cons_succ]
  refine wpAnyH_ready (rs := [14]) (by kernel_rfl) (by simp) ?_
  refine AllReadyH.cons (o := { dst := some 173, op := Go.Op.call { callee := Go.Callee.value (Go.Operand.func 12), args := #[Go.Operand.tmp 170, Go.Operand.tmp 171, Go.Operand.tmp 172], argTypes := #[28, 3, 3] }, type := 3, pos := "ref.go:120", after := #[{ on := 11, ground := Go.Ground.data }, { on := 12, ground := Go.Ground.data }, { on := 13, ground := Go.Ground.data }, { on := 10, ground := Go.Ground.chain }, { on := 10, ground := Go.Ground.guard }], guard := some (10, false) }) rfl (fun K' hK' => ?_) AllReadyH.nil
  go_simp
  have B9 := hid B1.out.drew
  have KC9 := hid KC.out.drew
  have KB9 := hid KB.out.drew
  have KX9 := hid KX.out.drew
  replace B1 := B9
  replace KC := KC9
  replace KB := KB9
  replace KX := KX9
  clear B9 KC9 KB9 KX9
  go_at_call 12
  refine Calls.mono (DI.out _ _ B1.out) ?_
  rintro e y1 ⟨rfl, hb⟩
  replace B1 := hid (bover B1.out hb)
  replace KC := hid (KC.out.kept hb)
  replace KB := hid (KB.out.kept hb)
  replace KX := hid (KX.out.kept hb)
  clear hb
  have hz := hid (s16 KC.out KB.out KX.out)
  refine hK'.out _ _ hz.out (fun hHeld => ?_)
  clear hK' K'
  try simp only [Act.put, List.setIfInBounds_toArray, List.set_cons_zero, List.set_cons_succ]
  refine wpAnyH_ready (rs := [19]) (by kernel_rfl) (by simp) ?_
  refine AllReadyH.cons (o := { dst := some 178, op := Go.Op.call { callee := Go.Callee.value (Go.Operand.func 12), args := #[Go.Operand.tmp 174, Go.Operand.tmp 175, Go.Operand.tmp 177], argTypes := #[28, 3, 3] }, type := 3, pos := "ref.go:120", after := #[{ on := 15, ground := Go.Ground.data }, { on := 16, ground := Go.Ground.data }, { on := 18, ground := Go.Ground.data }, { on := 14, ground := Go.Ground.chain }, { on := 10, ground := Go.Ground.guard }], guard := some (10, false) }) rfl (fun K' hK' => ?_) AllReadyH.nil
  go_simp
  go_at_call 12
  refine Calls.mono (DI.out _ _ B1.out) ?_
  rintro e y2 ⟨rfl, hb⟩
  replace B1 := hid (bover B1.out hb)
  replace KC := hid (KC.out.kept hb)
  replace KB := hid (KB.out.kept hb)
  replace KX := hid (KX.out.kept hb)
  clear hb
  have hz := hid (s16 KC.out KB.out KX.out)
  refine hK'.out _ _ hz.out (fun hHeld => ?_)
  clear hK' K'
  try simp only [Act.put, List.setIfInBounds_toArray, List.set_cons_zero, List.set_cons_succ]
  refine wpAnyH_take (i := 20) (oi := { dst := some 179, op := Go.Op.binOp Go.BinOp.neq 3 (Go.Operand.tmp 173) (Go.Operand.tmp 178) 3, type := 4, pos := "ref.go:120", after := #[{ on := 14, ground := Go.Ground.data }, { on := 19, ground := Go.Ground.data }, { on := 10, ground := Go.Ground.guard }], guard := some (10, false) }) (v := ?_) rfl (by kernel_rfl) (by kernel_rfl) (by kernel_rfl) (fun _ _ _ h => h) (Or.inl ⟨by rfl, ?_⟩) hHeld ?_
  rotate_left
  · intro w0 hSw; (try dsimp only at hSw); go_simp; (try with_reducible rfl)
  try simp only [Act.put, List.setIfInBounds_toArray, List.set_cons_zero, List.set_cons_succ]
  refine wpAnyH_take (i := 21) (oi := { dst := some 180, op := Go.Op.pick (Go.Operand.tmp 169) (Go.Operand.const (Go.Value.bool true)) (Go.Operand.tmp 179), type := 4, pos := "ref.go:120", after := #[{ on := 10, ground := Go.Ground.data }, { on := 20, ground := Go.Ground.data }, { on := 2, ground := Go.Ground.guard }], guard := some (2, true) }) (v := ?_) rfl (by kernel_rfl) (by kernel_rfl) (by kernel_rfl) (fun _ _ _ h => h) (Or.inl ⟨by rfl, ?_⟩) hHeld ?_
  rotate_left
  · intro w0 hSw; (try dsimp only at hSw); go_simp; (try with_reducible rfl)
  try simp only [Act.put, List.setIfInBounds_toArray, List.set_cons_zero, List.set_cons_succ]
  refine wpAnyH_take (i := 22) (oi := { dst := some 181, op := Go.Op.pick (Go.Operand.tmp 161) (Go.Operand.tmp 180) (Go.Operand.const (Go.Value.bool false)), type := 4, pos := "ref.go:120", after := #[{ on := 2, ground := Go.Ground.data }, { on := 21, ground := Go.Ground.data }], guard := none }) (v := ?_) rfl (by kernel_rfl) (by kernel_rfl) (by kernel_rfl) (fun _ _ _ h => h) (Or.inl ⟨by rfl, ?_⟩) hHeld ?_
  rotate_left
  · intro w0 hSw; (try dsimp only at hSw); go_simp; (try with_reducible rfl)
  try simp only [Act.put, List.setIfInBounds_toArray, List.set_cons_zero, List.set_cons_succ]
  refine wpAnyH_done (by kernel_rfl) ?_ _
  clear hHeld
  clear DI NT C116 he rT
  have hD3 : Hid (tD c i k ⟨13, dst, src, rc, n, tt, items, .slice a7 items.length p7, index, .slice a8 index.length p8⟩ = false) := hid rfl
  obtain ⟨b0, b1, b2⟩ := three0 KB.out
  obtain ⟨f0, f1, f2, f3, f4, f5, f6, f7⟩ := eight KX.out
  obtain ⟨c0, c1, c2, c3, c4⟩ := five0 KC.out
  have lb : _ < y2.heap.size := KB.out.1
  have lx : _ < y2.heap.size := KX.out.1
  have lc : _ < y2.heap.size := KC.out.1
  go_upto_region 13 with fail
  clear lb lx lc b0 b1 b2 f0 f1 f2 f3 f4 f5 f6 f7 c0 c1 c2 c3 c4
  cases z6 : ((k : Int) == (b.code.length : Int) - 1)
  rotate_left
  · have G : Hid (rr = false) := hid (by rw [F.out]; simp [insF, tE, z6])
    clear F hA hB hC3 hD3 hgl hre hst hl hsl hc hs ht hx xok bok hsec C100 C115 C110
    obtain ⟨b0, b1, b2⟩ := three0 KB.out
    obtain ⟨f0, f1, f2, f3, f4, f5, f6, f7⟩ := eight KX.out
    obtain ⟨c0, c1, c2, c3, c4⟩ := five0 KC.out
    have lb : _ < y2.heap.size := KB.out.1
    have lx : _ < y2.heap.size := KX.out.1
    have lc : _ < y2.heap.size := KC.out.1
    go_wp2_with fail
    go_ret
    exact ⟨retB G.out.symm, B1.out⟩
  have hE3 : Hid (tE b k ⟨13, dst, src, rc, n, tt, items, .slice a7 items.length p7, index, .slice a8 index.length p8⟩ = false) := hid (by simp [tE, z6])
  have F2 : Hid (rr = agreesB c i b k ⟨13, dst, src, rc, n, tt, items, .slice a7 items.length p7, index, .slice a8 index.length p8⟩) := hid (by rw [F.out]; simp [insF, hA.out, hB.out, hC3.out, hD3.out, hE3.out, isOp])
  clear F hA hB hC3 hD3 hE3
  obtain ⟨b0, b1, b2⟩ := three0 KB.out
  obtain ⟨f0, f1, f2, f3, f4, f5, f6, f7⟩ := eight KX.out
  obtain ⟨c0, c1, c2, c3, c4⟩ := five0 KC.out
  have lb : _ < y2.heap.size := KB.out.1
  have lx : _ < y2.heap.size := KX.out.1
  have lc : _ < y2.heap.size := KC.out.1
  clear hgl hre hst hl hsl hc hs ht hx xok bok hsec KC KB KX
  go_wp2_with (first | (go_at_call 44; with_reducible refine Calls.mono (C100.out _) ?_; rintro e w9 ⟨rfl, rfl⟩) | (go_at_call 44; with_reducible refine Calls.mono (C115.out _) ?_; rintro e w9 ⟨rfl, rfl⟩))
  go_ret
  exact ⟨retB (F2.out.trans (by rfl)).symm, bel2 B1.out _ _⟩

set_option maxRecDepth 100000 in
set_option maxHeartbeats 4000000 in
theorem rin14 (c : Cd) (i k : Nat) (b : Bd) (dst src rc n tt : Int) (items index : List Itm) (iv xv : Value) (w : World) (hc : c.okW w) (hs : SmallP c) (ht : c.threads[i]? = some b) (hx : b.code[k]? = some ⟨14, dst, src, rc, n, tt, items, iv, index, xv⟩)
    (hl : ∀ (j : Nat) (l : Loc), b.slots[j]? = some l → locOk c.recs.length l = true) :
    Calls Try.prog 21 #[.agg #[c.rv, c.gv, c.tv, c.ev, c.cv], .int .i64 i, .int .i64 k] w fun e w' => e = .returned (.bool (insOk c i b k ⟨14, dst, src, rc, n, tt, items, iv, index, xv⟩)) ∧ Below w.heap.size w w' := by
  obtain ⟨a0, p0, a1, p1, a2, p2, a3, p3, a4, p4, e0, e1, e2, e3, e4⟩ := cd_open hc
  have hit := (List.getElem?_eq_some_iff.1 ht).1
  have hkt := (List.getElem?_eq_some_iff.1 hx).1
  obtain ⟨at', ct, et, hT⟩ := bd_cells hc.2.2.1
  rw [e2] at et; cases et
  obtain ⟨b', bt, ot, a5, p5, a6, p6, hb', rfl, hbt, e5, e6, t0, t1, t2, bok⟩ := hT i hit
  rw [ht] at hb'; cases hb'
  obtain ⟨ac, cc, ec, hC⟩ := ins_cells bok.2.2
  rw [e6] at ec; cases ec
  obtain ⟨x', bi, oi, a7, p7, a8, p8, hx', rfl, hbi, e7, e8, ⟨d0, d1, d2, d3, d4, d5, d6, d7⟩, xok⟩ := hC k hkt
  rw [hx] at hx'; cases hx'
  simp only at e7 e8 d0 d1 d2 d3 d4 d5 d6 d7
  subst e7 e8
  have q1 := hs.l1
  have q3 := hs.l3
  have q5 := hs.l5
  have qs := hs.slots i b ht
  have qc := hs.code i b ht
  have qi := hs.items i b ht k _ hx
  simp only at qi
  obtain ⟨qi1, qi2⟩ := qi
  have ii : (i : Int) < (c.threads.length : Int) := by omega
  have kk : (k : Int) < (b.code.length : Int) := by omega
  have hsec := hc.2.2.2.2
  rw [e4] at hsec
  have Hd : hasC ⟨#[116, 105]⟩ 100 = false := by decide
  have Hs : hasC ⟨#[116, 105]⟩ 115 = false := by decide
  have Hr : hasC ⟨#[116, 105]⟩ 114 = false := by decide
  have Hn : hasC ⟨#[116, 105]⟩ 110 = false := by decide
  have Ht : hasC ⟨#[116, 105]⟩ 116 = true := by decide
  have Hi : hasC ⟨#[116, 105]⟩ 105 = true := by decide
  have Hx : hasC ⟨#[116, 105]⟩ 120 = false := by decide
  have HH := fun W => Has14 W
  have Nt := fun W => in_any tt (b.code.length : Int) b.code.length rfl W
  have Ni : ∀ W, Below w.heap.size w W → Calls Try.prog 45 #[.slice a7 items.length p7, .int .i64 (b.slots.length : Int)] W fun e w' => e = .returned (.bool (goodB (b.slots.length : Int) items)) ∧ Below W.heap.size W w' := fun W h => by
    obtain ⟨a, cap, e, hI⟩ := (Items.kept xok.2.1 h).at
    simp only at e
    cases e
    exact rgood_any (b.slots.length : Int) a7 items.length p7 items W rfl hI (by omega) (by omega) (by omega)
  have DI := fun (pl : Int) W (h : Below w.heap.size w W) => rinside_any (.slice a0 c.recs.length p0) (.slice a1 c.globs.length p1) (.slice (some ⟨bt, ot, none⟩) c.threads.length p2) (.slice a3 c.sites.length p3) (.slice a4 c.secs.length p4) c.secs i pl W (Secs.kept hsec h) (by omega)
  clear Nt Ni
  have C100 : HasSays ⟨#[116, 105]⟩ 100 false := fun W => by have h := has_any ⟨#[116, 105]⟩ 100 W (by decide); rw [Hd] at h; exact h
  have C115 : HasSays ⟨#[116, 105]⟩ 115 false := fun W => by have h := has_any ⟨#[116, 105]⟩ 115 W (by decide); rw [Hs] at h; exact h
  have C114 : HasSays ⟨#[116, 105]⟩ 114 false := fun W => by have h := has_any ⟨#[116, 105]⟩ 114 W (by decide); rw [Hr] at h; exact h
  have C110 : HasSays ⟨#[116, 105]⟩ 110 false := fun W => by have h := has_any ⟨#[116, 105]⟩ 110 W (by decide); rw [Hn] at h; exact h
  have C116 : HasSays ⟨#[116, 105]⟩ 116 true := fun W => by have h := has_any ⟨#[116, 105]⟩ 116 W (by decide); rw [Ht] at h; exact h
  have C105 : HasSays ⟨#[116, 105]⟩ 105 true := fun W => by have h := has_any ⟨#[116, 105]⟩ 105 W (by decide); rw [Hi] at h; exact h
  have C120 : HasSays ⟨#[116, 105]⟩ 120 false := fun W => by have h := has_any ⟨#[116, 105]⟩ 120 W (by decide); rw [Hx] at h; exact h
  have hq : ((⟨#[116, 105]⟩ : ByteArray).toList == (⟨#[63]⟩ : ByteArray).toList) = false := by first | kernel_rfl | rfl | (simp [ByteArray.toList, ByteArray.toList.loop]; done)
  have D100 : InSays dst (b.slots.length : Int) (isIn dst b.slots.length) := fun W => in_any dst (b.slots.length : Int) b.slots.length rfl W
  have D115 : InSays src (b.slots.length : Int) (isIn src b.slots.length) := fun W => in_any src (b.slots.length : Int) b.slots.length rfl W
  have D114 : InSays rc (c.recs.length : Int) (isIn rc c.recs.length) := fun W => in_any rc (c.recs.length : Int) c.recs.length rfl W
  have D105 : GoodSays w (.slice a7 items.length p7) (b.slots.length : Int) (goodB (b.slots.length : Int) items) := fun W h => by
    obtain ⟨a, cap, e, hI⟩ := (Items.kept xok.2.1 h).at
    simp only at e
    cases e
    exact rgood_any (b.slots.length : Int) a7 items.length p7 items W rfl hI (by omega) (by omega) (by omega)
  have D120 : GoodSays w (.slice a8 index.length p8) (b.slots.length : Int) (goodB (b.slots.length : Int) index) := fun W h => by
    obtain ⟨a, cap, e, hI⟩ := (Items.kept xok.2.2 h).at
    simp only at e
    cases e
    exact rgood_any (b.slots.length : Int) a8 index.length p8 index W rfl hI (by omega) (by omega) (by omega)
  rw [e0, e1, e2, e3, e4]
  have hsl := bok.2.1
  rw [e5] at hsl
  have hgl := hc.2.1
  rw [e1] at hgl
  have hre := hc.1
  rw [e0] at hre
  have hst := hc.2.2.2.1
  rw [e3] at hst
  have BB := below3 w (.cells #[.slice a0 c.recs.length p0, .slice a1 c.globs.length p1, .slice (some ⟨bt, ot, none⟩) c.threads.length p2, .slice a3 c.sites.length p3, .slice a4 c.secs.length p4] 28) (.cells #[.slice a5 b.slots.length p5, .slice (some ⟨bi, oi, none⟩) b.code.length p6, .int .i64 b.most] 39) (.cells #[.int .i64 14, .int .i64 dst, .int .i64 src, .int .i64 rc, .int .i64 n, .int .i64 tt, .slice a7 items.length p7, .slice a8 index.length p8] 33)
  have KC0 := ((BoxAt.new w #[.slice a0 c.recs.length p0, .slice a1 c.globs.length p1, .slice (some ⟨bt, ot, none⟩) c.threads.length p2, .slice a3 c.sites.length p3, .slice a4 c.secs.length p4] 28).past (.cells #[.slice a5 b.slots.length p5, .slice (some ⟨bi, oi, none⟩) b.code.length p6, .int .i64 b.most] 39)).past (.cells #[.int .i64 14, .int .i64 dst, .int .i64 src, .int .i64 rc, .int .i64 n, .int .i64 tt, .slice a7 items.length p7, .slice a8 index.length p8] 33)
  have KB0 := (BoxAt.new (w.alloc (.cells #[.slice a0 c.recs.length p0, .slice a1 c.globs.length p1, .slice (some ⟨bt, ot, none⟩) c.threads.length p2, .slice a3 c.sites.length p3, .slice a4 c.secs.length p4] 28)) #[.slice a5 b.slots.length p5, .slice (some ⟨bi, oi, none⟩) b.code.length p6, .int .i64 b.most] 39).past (.cells #[.int .i64 14, .int .i64 dst, .int .i64 src, .int .i64 rc, .int .i64 n, .int .i64 tt, .slice a7 items.length p7, .slice a8 index.length p8] 33)
  have KX0 := BoxAt.new ((w.alloc (.cells #[.slice a0 c.recs.length p0, .slice a1 c.globs.length p1, .slice (some ⟨bt, ot, none⟩) c.threads.length p2, .slice a3 c.sites.length p3, .slice a4 c.secs.length p4] 28)).alloc (.cells #[.slice a5 b.slots.length p5, .slice (some ⟨bi, oi, none⟩) b.code.length p6, .int .i64 b.most] 39)) #[.int .i64 14, .int .i64 dst, .int .i64 src, .int .i64 rc, .int .i64 n, .int .i64 tt, .slice a7 items.length p7, .slice a8 index.length p8] 33
  simp only [World.size_alloc] at KB0 KX0
  have F : Hid (insOk c i b k ⟨14, dst, src, rc, n, tt, items, .slice a7 items.length p7, index, .slice a8 index.length p8⟩ = insF c i b k ⟨14, dst, src, rc, n, tt, items, .slice a7 items.length p7, index, .slice a8 index.length p8⟩) := hid (insOk_eq _ _ _ _ _)
  generalize hrr : insOk c i b k ⟨14, dst, src, rc, n, tt, items, .slice a7 items.length p7, index, .slice a8 index.length p8⟩ = rr at *
  clear e0 e1 e2 e3 e4 e5 e6 hT hC hrr
  replace C100 := hid C100
  replace C115 := hid C115
  replace C114 := hid C114
  replace C110 := hid C110
  replace C116 := hid C116
  replace C105 := hid C105
  replace C120 := hid C120
  replace D100 := hid D100
  replace D115 := hid D115
  replace D114 := hid D114
  replace D105 := hid D105
  replace D120 := hid D120
  replace KC0 := hid KC0
  replace KB0 := hid KB0
  replace KX0 := hid KX0
  replace DI := hid DI
  replace HH := hid HH
  replace BB := hid BB
  replace hl := hid hl
  replace hsl := hid hsl
  replace hgl := hid hgl
  replace hre := hid hre
  replace hst := hid hst
  replace hc := hid hc
  replace hs := hid hs
  replace ht := hid ht
  replace hx := hid hx
  replace xok := hid xok
  replace bok := hid bok
  replace hsec := hid hsec
  replace hq := hid hq
  go_enter Try.func21, Try.ntmps21
  go_upto_region 4 with (go_at_call 43; refine Calls.mono (HH.out _) ?_; rintro e w1 ⟨rfl, hb⟩; have B1 := hid (bover BB.out hb); have KC := hid (KC0.out.kept hb); have KB := hid (KB0.out.kept hb); have KX := hid (KX0.out.kept hb); clear KC0 KB0 KX0 BB hb)
  obtain ⟨cA, hA⟩ : ∃ q, tA ⟨14, dst, src, rc, n, tt, items, .slice a7 items.length p7, index, .slice a8 index.length p8⟩ = q := ⟨_, rfl⟩
  replace hA := hid hA
  refine region4_any hq.out C100.out C115.out C114.out C110.out C116.out C105.out C120.out KX.out hA.out ?_
  intro g
  clear t0 t1 t2 d0 d1 d2 d3 d4 d5 d6 d7 Hd Hs Hr Hn Ht Hi Hx HH hq ii q1 q3 q5 qs qi1 qi2
  have h1000 : (b.code.length : Int) ≤ 1000 := by omega
  cases cA
  rotate_left
  · have G : Hid (rr = false) := hid (by rw [F.out]; simp [insF, hA.out])
    clear F DI KC KB KX hA hgl hre hst hl hsl hc hs ht hx xok bok hsec C100 C115 C114 C110 C116 C105 C120 D100 D115 D114 D105 D120
    go_wp2_with fail
    go_ret
    exact ⟨retB G.out.symm, B1.out⟩
  obtain ⟨b0, b1, b2⟩ := three0 KB.out
  go_upto_region 7 with fail
  clear b0 b1 b2
  obtain ⟨cB, hB⟩ : ∃ q, tB c b ⟨14, dst, src, rc, n, tt, items, .slice a7 items.length p7, index, .slice a8 index.length p8⟩ = q := ⟨_, rfl⟩
  replace hB := hid hB
  refine region7_any C100.out C115.out C105.out C120.out C114.out D100.out D115.out D114.out (D105.out.mono B1.out) (D120.out.mono B1.out) KX.out KC.out hB.out ?_
  intro w2 hb g2
  replace B1 := hid (bover B1.out hb)
  replace KC := hid (KC.out.kept hb)
  replace KB := hid (KB.out.kept hb)
  replace KX := hid (KX.out.kept hb)
  replace C100 : Hid (∀ W, Calls Try.prog 44 #[.string ⟨#[116, 105]⟩, .int .u8 100] W fun e w' => e = .returned (.bool false) ∧ w' = W) := C100
  replace C115 : Hid (∀ W, Calls Try.prog 44 #[.string ⟨#[116, 105]⟩, .int .u8 115] W fun e w' => e = .returned (.bool false) ∧ w' = W) := C115
  clear hb C105 C120 C114 D100 D115 D114 D105 D120
  cases cB
  rotate_left
  · have G : Hid (rr = false) := hid (by rw [F.out]; simp [insF, hB.out])
    clear F DI KC KB KX hgl hre hst hA hB hl hsl hc hs ht hx xok bok hsec C110 C116 C100 C115
    go_wp2_with fail
    go_ret
    exact ⟨retB G.out.symm, B1.out⟩
  replace C116 : Hid (∀ W, Calls Try.prog 44 #[.string ⟨#[116, 105]⟩, .int .u8 116] W fun e w' => e = .returned (.bool true) ∧ w' = W) := C116
  have NT := hid (fun W => in_any tt (b.code.length : Int) b.code.length rfl W)
  cases rT : isIn tt b.code.length
  · have G : Hid (rr = false) := hid (by rw [F.out]; simp [insF, tC, tgtB, hasT, rT])
    rw [rT] at NT
    clear F hA hB DI hgl hre hst hl hsl hc hs ht hx xok bok hsec C100 C115 C110
    obtain ⟨b0, b1, b2⟩ := three0 KB.out
    obtain ⟨f0, f1, f2, f3, f4, f5, f6, f7⟩ := eight KX.out
    obtain ⟨c0, c1, c2, c3, c4⟩ := five0 KC.out
    have lb : _ < w2.heap.size := KB.out.1
    have lx : _ < w2.heap.size := KX.out.1
    have lc : _ < w2.heap.size := KC.out.1
    go_wp2_with fail
    go_quiet ((first | (go_at_call 44; exact Calls.quiet_of_same (C116.out _)) | (go_at_call 20; exact Calls.quiet_of_same (NT.out _))))
    go_wp2_with fail
    go_ret
    exact ⟨retB G.out.symm, quietB B1.out nq⟩
  rw [rT] at NT
  cases he : (inside c.secs i k != inside c.secs i tt)
  rotate_left
  · have G : Hid (rr = false) := hid (by
      have he2 : ¬ inside c.secs i tt = inside c.secs i k := by intro q; simp [q] at he
      rw [F.out]; simp [insF, tC, tgtB, hasT, rT, he2])
    clear F hA hB hgl hre hst hl hsl hc hs ht hx xok bok hsec C100 C115 C110
    go_wp2_with fail
    refine wp_region_held_drew (S := fun (w' : World) => (w'.cell? ⟨w.heap.size, 0, none⟩ = some (.slice a0 c.recs.length p0) ∧ w'.cell? ⟨w.heap.size, 1, none⟩ = some (.slice a1 c.globs.length p1) ∧ w'.cell? ⟨w.heap.size, 2, none⟩ = some (.slice (some ⟨bt, ot, none⟩) c.threads.length p2) ∧ w'.cell? ⟨w.heap.size, 3, none⟩ = some (.slice a3 c.sites.length p3) ∧ w'.cell? ⟨w.heap.size, 4, none⟩ = some (.slice a4 c.secs.length p4)) ∧ (w'.cell? ⟨w.heap.size + 1, 0, none⟩ = some (.slice a5 b.slots.length p5) ∧ w'.cell? ⟨w.heap.size + 1, 1, none⟩ = some (.slice (some ⟨bi, oi, none⟩) b.code.length p6) ∧ w'.cell? ⟨w.heap.size + 1, 2, none⟩ = some (.int .i64 b.most)) ∧ (w'.cell? ⟨w.heap.size + 1 + 1, 0, none⟩ = some (.int .i64 14) ∧ w'.cell? ⟨w.heap.size + 1 + 1, 1, none⟩ = some (.int .i64 dst) ∧ w'.cell? ⟨w.heap.size + 1 + 1, 2, none⟩ = some (.int .i64 src) ∧ w'.cell? ⟨w.heap.size + 1 + 1, 3, none⟩ = some (.int .i64 rc) ∧ w'.cell? ⟨w.heap.size + 1 + 1, 4, none⟩ = some (.int .i64 n) ∧ w'.cell? ⟨w.heap.size + 1 + 1, 5, none⟩ = some (.int .i64 tt) ∧ w'.cell? ⟨w.heap.size + 1 + 1, 6, none⟩ = some (.slice a7 items.length p7) ∧ w'.cell? ⟨w.heap.size + 1 + 1, 7, none⟩ = some (.slice a8 index.length p8))) (by kernel_rfl) (s16 KC.out.drew KB.out.drew KX.out.drew) (fun hHeld => ?_)
    refine wpAnyH_take (i := 0) (oi := { dst := some 159, op := Go.Op.move (Go.Operand.tmp 9), type := 9, pos := "ref.go:120", after := #[], guard := none }) (v := ?_) rfl (by kernel_rfl) (by kernel_rfl) (by kernel_rfl) (fun _ _ _ h => h) (Or.inl ⟨by rfl, ?_⟩) hHeld ?_
    rotate_left
    · intro w0 hSw; (try dsimp only at hSw); go_simp; (try with_reducible rfl)
    try simp only [Act.put, List.setIfInBounds_toArray, List.set_cons_zero, List.set_cons_succ]
    refine wpAnyH_ready (rs := [1]) (by kernel_rfl) (by simp) ?_
    refine AllReadyH.cons (o := { dst := some 160, op := Go.Op.call { callee := Go.Callee.value (Go.Operand.func 44), args := #[Go.Operand.tmp 159, Go.Operand.const (Go.Value.int Go.IntKind.u8 116)], argTypes := #[9, 5] }, type := 4, pos := "ref.go:120", after := #[{ on := 0, ground := Go.Ground.data }], guard := none }) rfl (fun K' hK' => ?_) AllReadyH.nil
    go_simp
    go_at_call 44
    refine Calls.mono (C116.out _) ?_
    rintro e w9 ⟨rfl, rfl⟩
    refine hK'.out _ _ hHeld (fun hHeld => ?_)
    clear hK' K'
    try simp only [Act.put, List.setIfInBounds_toArray, List.set_cons_zero, List.set_cons_succ]
    refine wpAnyH_take (i := 2) (oi := { dst := some 161, op := Go.Op.move (Go.Operand.tmp 160), type := 4, pos := "ref.go:120", after := #[{ on := 1, ground := Go.Ground.data }, { on := 1, ground := Go.Ground.chain }], guard := none }) (v := ?_) rfl (by kernel_rfl) (by kernel_rfl) (by kernel_rfl) (fun _ _ _ h => h) (Or.inl ⟨by rfl, ?_⟩) hHeld ?_
    rotate_left
    · intro w0 hSw; (try dsimp only at hSw); go_simp; (try with_reducible rfl)
    try simp only [Act.put, List.setIfInBounds_toArray, List.set_cons_zero, List.set_cons_succ]
    refine wpAnyH_take (i := 3) (oi := { dst := some 162, op := Go.Op.fieldAddr 33 (Go.Operand.tmp 8) 5, type := 0, pos := "ref.go:120", after := #[{ on := 2, ground := Go.Ground.guard }], guard := some (2, true) }) (v := ?_) rfl (by kernel_rfl) (by kernel_rfl) (by kernel_rfl) (fun _ _ _ h => h) (Or.inl ⟨by rfl, ?_⟩) hHeld ?_
    rotate_left
    · intro w0 hSw; (try dsimp only at hSw); go_simp; (try with_reducible rfl)
    try simp only [Act.put, List.setIfInBounds_toArray, List.set_cons_zero, List.set_cons_succ]
    refine wpAnyH_take (i := 4) (oi := { dst := some 163, op := Go.Op.load 3 (Go.Operand.tmp 162), type := 3, pos := "ref.go:120", after := #[{ on := 3, ground := Go.Ground.data }, { on := 2, ground := Go.Ground.guard }], guard := some (2, true) }) (v := ?_) rfl (by kernel_rfl) (by kernel_rfl) (by kernel_rfl) (fun _ _ _ h => h) (Or.inl ⟨by rfl, ?_⟩) hHeld ?_
    rotate_left
    · intro w0 hSw; (try dsimp only at hSw); go_simp; (try with_reducible rfl)
    try simp only [Act.put, List.setIfInBounds_toArray, List.set_cons_zero, List.set_cons_succ]
    refine wpAnyH_take (i := 5) (oi := { dst := some 164, op := Go.Op.fieldAddr 39 (Go.Operand.tmp 7) 1, type := 0, pos := "ref.go:120", after := #[{ on := 2, ground := Go.Ground.guard }], guard := some (2, true) }) (v := ?_) rfl (by kernel_rfl) (by kernel_rfl) (by kernel_rfl) (fun _ _ _ h => h) (Or.inl ⟨by rfl, ?_⟩) hHeld ?_
    rotate_left
    · intro w0 hSw; (try dsimp only at hSw); go_simp; (try with_reducible rfl)
    try simp only [Act.put, List.setIfInBounds_toArray, List.set_cons_zero, List.set_cons_succ]
    refine wpAnyH_take (i := 6) (oi := { dst := some 165, op := Go.Op.load 37 (Go.Operand.tmp 164), type := 37, pos := "ref.go:120", after := #[{ on := 5, ground := Go.Ground.data }, { on := 2, ground := Go.Ground.guard }], guard := some (2, true) }) (v := ?_) rfl (by kernel_rfl) (by kernel_rfl) (by kernel_rfl) (fun _ _ _ h => h) (Or.inl ⟨by rfl, ?_⟩) hHeld ?_
    rotate_left
    · intro w0 hSw; (try dsimp only at hSw); go_simp; (try with_reducible rfl)
    try simp only [Act.put, List.setIfInBounds_toArray, List.set_cons_zero, List.set_cons_succ]
    refine wpAnyH_take (i := 7) (oi := { dst := some 166, op := Go.Op.call { callee := Go.Callee.builtin Go.Builtin.len, args := #[Go.Operand.tmp 165], argTypes := #[37] }, type := 3, pos := "ref.go:120", after := #[{ on := 6, ground := Go.Ground.data }, { on := 2, ground := Go.Ground.guard }], guard := some (2, true) }) (v := ?_) rfl (by kernel_rfl) (by kernel_rfl) (by kernel_rfl) (fun _ _ _ h => h) (Or.inl ⟨by rfl, ?_⟩) hHeld ?_
    rotate_left
    · intro w0 hSw; (try dsimp only at hSw); go_simp; (try with_reducible rfl)
    try simp only [Act.put, List.setIfInBounds_toArray, List.set_cons_zero, List.set_cons_succ]
    refine wpAnyH_ready (rs := [8]) (by kernel_rfl) (by simp) ?_
    refine AllReadyH.cons (o := { dst := some 167, op := Go.Op.call { callee := Go.Callee.value (Go.Operand.func 20), args := #[Go.Operand.tmp 163, Go.Operand.tmp 166], argTypes := #[3, 3] }, type := 4, pos := "ref.go:120", after := #[{ on := 4, ground := Go.Ground.data }, { on := 7, ground := Go.Ground.data }, { on := 2, ground := Go.Ground.chain }, { on := 2, ground := Go.Ground.guard }], guard := some (2, true) }) rfl (fun K' hK' => ?_) AllReadyH.nil
    go_simp
    go_at_call 20
    refine Calls.mono (NT.out _) ?_
    rintro e w9 ⟨rfl, rfl⟩
    refine hK'.out _ _ hHeld (fun hHeld => ?_)
    clear hK' K'
    try simp only [Act.put, List.setIfInBounds_toArray, List.set_cons_zero, List.set_cons_succ]
    refine wpAnyH_take (i := 9) (oi := { dst := some 168, op := Go.Op.unOp Go.UnOp.not 4 (Go.Operand.tmp 167), type := 4, pos := "ref.go:120", after := #[{ on := 8, ground := Go.Ground.data }, { on := 2, ground := Go.Ground.guard }], guard := some (2, true) }) (v := ?_) rfl (by kernel_rfl) (by kernel_rfl) (by kernel_rfl) (fun _ _ _ h => h) (Or.inl ⟨by rfl, ?_⟩) hHeld ?_
    rotate_left
    · intro w0 hSw; (try dsimp only at hSw); go_simp; (try with_reducible rfl)
    try simp only [Act.put, List.setIfInBounds_toArray, List.set_cons_zero, List.set_cons_succ]
    refine wpAnyH_take (i := 10) (oi := { dst := some 169, op := Go.Op.move (Go.Operand.tmp 168), type := 4, pos := "ref.go:120", after := #[{ on := 9, ground := Go.Ground.data }, { on := 8, ground := Go.Ground.chain }, { on := 2, ground := Go.Ground.guard }], guard := some (2, true) }) (v := ?_) rfl (by kernel_rfl) (by kernel_rfl) (by kernel_rfl) (fun _ _ _ h => h) (Or.inl ⟨by rfl, ?_⟩) hHeld ?_
    rotate_left
    · intro w0 hSw; (try dsimp only at hSw); go_simp; (try with_reducible rfl)
    try simp only [Act.put, List.setIfInBounds_toArray, List.set_cons_zero, List.set_cons_succ]
    refine wpAnyH_take (i := 11) (oi := { dst := some 170, op := Go.Op.load 28 (Go.Operand.tmp 3), type := 28, pos := "ref.go:120", after := #[{ on := 10, ground := Go.Ground.guard }], guard := some (10, false) }) (v := ?_) rfl (by kernel_rfl) (by kernel_rfl) (by kernel_rfl) (fun _ _ _ h => h) (Or.inl ⟨by rfl, ?_⟩) hHeld ?_
    rotate_left
    · intro w0 hSw; (try dsimp only at hSw); go_simp; (try with_reducible rfl)
    try simp only [Act.put, List.setIfInBounds_toArray, List.set_cons_zero, List.set_cons_succ]
    refine wpAnyH_take (i := 12) (oi := { dst := some 171, op := Go.Op.move (Go.Operand.tmp 1), type := 3, pos := "ref.go:120", after := #[{ on := 10, ground := Go.Ground.guard }], guard := some (10, false) }) (v := ?_) rfl (by kernel_rfl) (by kernel_rfl) (by kernel_rfl) (fun _ _ _ h => h) (Or.inl ⟨by rfl, ?_⟩) hHeld ?_
    rotate_left
    · intro w0 hSw; (try dsimp only at hSw); go_simp; (try with_reducible rfl)
    try simp only [Act.put, List.setIfInBounds_toArray, List.set_cons_zero, List.set_cons_succ]
    refine wpAnyH_take (i := 13) (oi := { dst := some 172, op := Go.Op.move (Go.Operand.tmp 2), type := 3, pos := "ref.go:120", after := #[{ on := 10, ground := Go.Ground.guard }], guard := some (10, false) }) (v := ?_) rfl (by kernel_rfl) (by kernel_rfl) (by kernel_rfl) (fun _ _ _ h => h) (Or.inl ⟨by rfl, ?_⟩) hHeld ?_
    rotate_left
    · intro w0 hSw; (try dsimp only at hSw); go_simp; (try with_reducible rfl)
    try simp only [Act.put, List.setIfInBounds_toArray, List.set_cons_zero, List.set_cons_succ]
    refine wpAnyH_take (i := 15) (oi := { dst := some 174, op := Go.Op.load 28 (Go.Operand.tmp 3), type := 28, pos := "ref.go:120", after := #[{ on := 10, ground := Go.Ground.guard }], guard := some (10, false) }) (v := ?_) rfl (by kernel_rfl) (by kernel_rfl) (by kernel_rfl) (fun _ _ _ h => h) (Or.inl ⟨by rfl, ?_⟩) hHeld ?_
    rotate_left
    · intro w0 hSw; (try dsimp only at hSw); go_simp; (try with_reducible rfl)
    try simp only [Act.put, List.setIfInBounds_toArray, List.set_cons_zero, List.set_cons_succ]
    refine wpAnyH_take (i := 16) (oi := { dst := some 175, op := Go.Op.move (Go.Operand.tmp 1), type := 3, pos := "ref.go:120", after := #[{ on := 10, ground := Go.Ground.guard }], guard := some (10, false) }) (v := ?_) rfl (by kernel_rfl) (by kernel_rfl) (by kernel_rfl) (fun _ _ _ h => h) (Or.inl ⟨by rfl, ?_⟩) hHeld ?_
    rotate_left
    · intro w0 hSw; (try dsimp only at hSw); go_simp; (try with_reducible rfl)
    try simp only [Act.put, List.setIfInBounds_toArray, List.set_cons_zero, List.set_cons_succ]
    refine wpAnyH_take (i := 17) (oi := { dst := some 176, op := Go.Op.fieldAddr 33 (Go.Operand.tmp 8) 5, type := 0, pos := "ref.go:120", after := #[{ on := 10, ground := Go.Ground.guard }], guard := some (10, false) }) (v := ?_) rfl (by kernel_rfl) (by kernel_rfl) (by kernel_rfl) (fun _ _ _ h => h) (Or.inl ⟨by rfl, ?_⟩) hHeld ?_
    rotate_left
    · intro w0 hSw; (try dsimp only at hSw); go_simp; (try with_reducible rfl)
    try simp only [Act.put, List.setIfInBounds_toArray, List.set_cons_zero, List.set_cons_succ]
    refine wpAnyH_take (i := 18) (oi := { dst := some 177, op := Go.Op.load 3 (Go.Operand.tmp 176), type := 3, pos := "ref.go:120", after := #[{ on := 17, ground := Go.Ground.data }, { on := 10, ground := Go.Ground.guard }], guard := some (10, false) }) (v := ?_) rfl (by kernel_rfl) (by kernel_rfl) (by kernel_rfl) (fun _ _ _ h => h) (Or.inl ⟨by rfl, ?_⟩) hHeld ?_
    rotate_left
    · intro w0 hSw; (try dsimp only at hSw); go_simp; (try with_reducible rfl)
    try simp only [Act.put, List.setIfInBounds_toArray, List.set_cons_zero, List.set_cons_succ]
    refine wpAnyH_ready (rs := [14]) (by kernel_rfl) (by simp) ?_
    refine AllReadyH.cons (o := { dst := some 173, op := Go.Op.call { callee := Go.Callee.value (Go.Operand.func 12), args := #[Go.Operand.tmp 170, Go.Operand.tmp 171, Go.Operand.tmp 172], argTypes := #[28, 3, 3] }, type := 3, pos := "ref.go:120", after := #[{ on := 11, ground := Go.Ground.data }, { on := 12, ground := Go.Ground.data }, { on := 13, ground := Go.Ground.data }, { on := 10, ground := Go.Ground.chain }, { on := 10, ground := Go.Ground.guard }], guard := some (10, false) }) rfl (fun K' hK' => ?_) AllReadyH.nil
    go_simp
    have B9 := hid B1.out.drew
    have KC9 := hid KC.out.drew
    have KB9 := hid KB.out.drew
    have KX9 := hid KX.out.drew
    replace B1 := B9
    replace KC := KC9
    replace KB := KB9
    replace KX := KX9
    clear B9 KC9 KB9 KX9
    go_at_call 12
    refine Calls.mono (DI.out _ _ B1.out) ?_
    rintro e y1 ⟨rfl, hb⟩
    replace B1 := hid (bover B1.out hb)
    replace KC := hid (KC.out.kept hb)
    replace KB := hid (KB.out.kept hb)
    replace KX := hid (KX.out.kept hb)
    clear hb
    have hz := hid (s16 KC.out KB.out KX.out)
    refine hK'.out _ _ hz.out (fun hHeld => ?_)
    clear hK' K'
    try simp only [Act.put, List.setIfInBounds_toArray, List.set_cons_zero, List.set_cons_succ]
    refine wpAnyH_ready (rs := [19]) (by kernel_rfl) (by simp) ?_
    refine AllReadyH.cons (o := { dst := some 178, op := Go.Op.call { callee := Go.Callee.value (Go.Operand.func 12), args := #[Go.Operand.tmp 174, Go.Operand.tmp 175, Go.Operand.tmp 177], argTypes := #[28, 3, 3] }, type := 3, pos := "ref.go:120", after := #[{ on := 15, ground := Go.Ground.data }, { on := 16, ground := Go.Ground.data }, { on := 18, ground := Go.Ground.data }, { on := 14, ground := Go.Ground.chain }, { on := 10, ground := Go.Ground.guard }], guard := some (10, false) }) rfl (fun K' hK' => ?_) AllReadyH.nil
    go_simp
    go_at_call 12
    refine Calls.mono (DI.out _ _ B1.out) ?_
    rintro e y2 ⟨rfl, hb⟩
    replace B1 := hid (bover B1.out hb)
    replace KC := hid (KC.out.kept hb)
    replace KB := hid (KB.out.kept hb)
    replace KX := hid (KX.out.kept hb)
    clear hb
    have hz := hid (s16 KC.out KB.out KX.out)
    refine hK'.out _ _ hz.out (fun hHeld => ?_)
    clear hK' K'
    try simp only [Act.put, List.setIfInBounds_toArray, List.set_cons_zero, List.set_cons_succ]
    refine wpAnyH_take (i := 20) (oi := { dst := some 179, op := Go.Op.binOp Go.BinOp.neq 3 (Go.Operand.tmp 173) (Go.Operand.tmp 178) 3, type := 4, pos := "ref.go:120", after := #[{ on := 14, ground := Go.Ground.data }, { on := 19, ground := Go.Ground.data }, { on := 10, ground := Go.Ground.guard }], guard := some (10, false) }) (v := ?_) rfl (by kernel_rfl) (by kernel_rfl) (by kernel_rfl) (fun _ _ _ h => h) (Or.inl ⟨by rfl, ?_⟩) hHeld ?_
    rotate_left
    · intro w0 hSw; (try dsimp only at hSw); go_simp; (try with_reducible rfl)
    try simp only [Act.put, List.setIfInBounds_toArray, List.set_cons_zero, List.set_cons_succ]
    refine wpAnyH_take (i := 21) (oi := { dst := some 180, op := Go.Op.pick (Go.Operand.tmp 169) (Go.Operand.const (Go.Value.bool true)) (Go.Operand.tmp 179), type := 4, pos := "ref.go:120", after := #[{ on := 10, ground := Go.Ground.data }, { on := 20, ground := Go.Ground.data }, { on := 2, ground := Go.Ground.guard }], guard := some (2, true) }) (v := ?_) rfl (by kernel_rfl) (by kernel_rfl) (by kernel_rfl) (fun _ _ _ h => h) (Or.inl ⟨by rfl, ?_⟩) hHeld ?_
    rotate_left
    · intro w0 hSw; (try dsimp only at hSw); go_simp; (try with_reducible rfl)
    try simp only [Act.put, List.setIfInBounds_toArray, List.set_cons_zero, List.set_cons_succ]
    refine wpAnyH_take (i := 22) (oi := { dst := some 181, op := Go.Op.pick (Go.Operand.tmp 161) (Go.Operand.tmp 180) (Go.Operand.const (Go.Value.bool false)), type := 4, pos := "ref.go:120", after := #[{ on := 2, ground := Go.Ground.data }, { on := 21, ground := Go.Ground.data }], guard := none }) (v := ?_) rfl (by kernel_rfl) (by kernel_rfl) (by kernel_rfl) (fun _ _ _ h => h) (Or.inl ⟨by rfl, ?_⟩) hHeld ?_
    rotate_left
    · intro w0 hSw; (try dsimp only at hSw); go_simp; (try with_reducible rfl)
    try simp only [Act.put, List.setIfInBounds_toArray, List.set_cons_zero, List.set_cons_succ]
    refine wpAnyH_done (by kernel_rfl) ?_ _
    clear hHeld
    go_wp2_with fail
    go_ret
    exact ⟨retB G.out.symm, B1.out⟩
  have hC3 : Hid (tC c i b k ⟨14, dst, src, rc, n, tt, items, .slice a7 items.length p7, index, .slice a8 index.length p8⟩ = false) := hid (by
    have he2 : inside c.secs i tt = inside c.secs i k := by simpa using (Eq.symm (by simpa using he))
    simp [tC, tgtB, hasT, rT, he2])
  go_wp2_with fail
  refine wp_region_held_drew (S := fun (w' : World) => (w'.cell? ⟨w.heap.size, 0, none⟩ = some (.slice a0 c.recs.length p0) ∧ w'.cell? ⟨w.heap.size, 1, none⟩ = some (.slice a1 c.globs.length p1) ∧ w'.cell? ⟨w.heap.size, 2, none⟩ = some (.slice (some ⟨bt, ot, none⟩) c.threads.length p2) ∧ w'.cell? ⟨w.heap.size, 3, none⟩ = some (.slice a3 c.sites.length p3) ∧ w'.cell? ⟨w.heap.size, 4, none⟩ = some (.slice a4 c.secs.length p4)) ∧ (w'.cell? ⟨w.heap.size + 1, 0, none⟩ = some (.slice a5 b.slots.length p5) ∧ w'.cell? ⟨w.heap.size + 1, 1, none⟩ = some (.slice (some ⟨bi, oi, none⟩) b.code.length p6) ∧ w'.cell? ⟨w.heap.size + 1, 2, none⟩ = some (.int .i64 b.most)) ∧ (w'.cell? ⟨w.heap.size + 1 + 1, 0, none⟩ = some (.int .i64 14) ∧ w'.cell? ⟨w.heap.size + 1 + 1, 1, none⟩ = some (.int .i64 dst) ∧ w'.cell? ⟨w.heap.size + 1 + 1, 2, none⟩ = some (.int .i64 src) ∧ w'.cell? ⟨w.heap.size + 1 + 1, 3, none⟩ = some (.int .i64 rc) ∧ w'.cell? ⟨w.heap.size + 1 + 1, 4, none⟩ = some (.int .i64 n) ∧ w'.cell? ⟨w.heap.size + 1 + 1, 5, none⟩ = some (.int .i64 tt) ∧ w'.cell? ⟨w.heap.size + 1 + 1, 6, none⟩ = some (.slice a7 items.length p7) ∧ w'.cell? ⟨w.heap.size + 1 + 1, 7, none⟩ = some (.slice a8 index.length p8))) (by kernel_rfl) (s16 KC.out.drew KB.out.drew KX.out.drew) (fun hHeld => ?_)
  refine wpAnyH_take (i := 0) (oi := { dst := some 159, op := Go.Op.move (Go.Operand.tmp 9), type := 9, pos := "ref.go:120", after := #[], guard := none }) (v := ?_) rfl (by kernel_rfl) (by kernel_rfl) (by kernel_rfl) (fun _ _ _ h => h) (Or.inl ⟨by rfl, ?_⟩) hHeld ?_
  rotate_left
  · intro w0 hSw; (try dsimp only at hSw); go_simp; (try with_reducible rfl)
  try simp only [Act.put, List.setIfInBounds_toArray, List.set_cons_zero, List.set_cons_succ]
  refine wpAnyH_ready (rs := [1]) (by kernel_rfl) (by simp) ?_
  refine AllReadyH.cons (o := { dst := some 160, op := Go.Op.call { callee := Go.Callee.value (Go.Operand.func 44), args := #[Go.Operand.tmp 159, Go.Operand.const (Go.Value.int Go.IntKind.u8 116)], argTypes := #[9, 5] }, type := 4, pos := "ref.go:120", after := #[{ on := 0, ground := Go.Ground.data }], guard := none }) rfl (fun K' hK' => ?_) AllReadyH.nil
  go_simp
  go_at_call 44
  refine Calls.mono (C116.out _) ?_
  rintro e w9 ⟨rfl, rfl⟩
  refine hK'.out _ _ hHeld (fun hHeld => ?_)
  clear hK' K'
  try simp only [Act.put, List.setIfInBounds_toArray, List.set_cons_zero, List.set_cons_succ]
  refine wpAnyH_take (i := 2) (oi := { dst := some 161, op := Go.Op.move (Go.Operand.tmp 160), type := 4, pos := "ref.go:120", after := #[{ on := 1, ground := Go.Ground.data }, { on := 1, ground := Go.Ground.chain }], guard := none }) (v := ?_) rfl (by kernel_rfl) (by kernel_rfl) (by kernel_rfl) (fun _ _ _ h => h) (Or.inl ⟨by rfl, ?_⟩) hHeld ?_
  rotate_left
  · intro w0 hSw; (try dsimp only at hSw); go_simp; (try with_reducible rfl)
  try simp only [Act.put, List.setIfInBounds_toArray, List.set_cons_zero, List.set_cons_succ]
  refine wpAnyH_take (i := 3) (oi := { dst := some 162, op := Go.Op.fieldAddr 33 (Go.Operand.tmp 8) 5, type := 0, pos := "ref.go:120", after := #[{ on := 2, ground := Go.Ground.guard }], guard := some (2, true) }) (v := ?_) rfl (by kernel_rfl) (by kernel_rfl) (by kernel_rfl) (fun _ _ _ h => h) (Or.inl ⟨by rfl, ?_⟩) hHeld ?_
  rotate_left
  · intro w0 hSw; (try dsimp only at hSw); go_simp; (try with_reducible rfl)
  try simp only [Act.put, List.setIfInBounds_toArray, List.set_cons_zero, List.set_cons_succ]
  refine wpAnyH_take (i := 4) (oi := { dst := some 163, op := Go.Op.load 3 (Go.Operand.tmp 162), type := 3, pos := "ref.go:120", after := #[{ on := 3, ground := Go.Ground.data }, { on := 2, ground := Go.Ground.guard }], guard := some (2, true) }) (v := ?_) rfl (by kernel_rfl) (by kernel_rfl) (by kernel_rfl) (fun _ _ _ h => h) (Or.inl ⟨by rfl, ?_⟩) hHeld ?_
  rotate_left
  · intro w0 hSw; (try dsimp only at hSw); go_simp; (try with_reducible rfl)
  try simp only [Act.put, List.setIfInBounds_toArray, List.set_cons_zero, List.set_cons_succ]
  refine wpAnyH_take (i := 5) (oi := { dst := some 164, op := Go.Op.fieldAddr 39 (Go.Operand.tmp 7) 1, type := 0, pos := "ref.go:120", after := #[{ on := 2, ground := Go.Ground.guard }], guard := some (2, true) }) (v := ?_) rfl (by kernel_rfl) (by kernel_rfl) (by kernel_rfl) (fun _ _ _ h => h) (Or.inl ⟨by rfl, ?_⟩) hHeld ?_
  rotate_left
  · intro w0 hSw; (try dsimp only at hSw); go_simp; (try with_reducible rfl)
  try simp only [Act.put, List.setIfInBounds_toArray, List.set_cons_zero, List.set_cons_succ]
  refine wpAnyH_take (i := 6) (oi := { dst := some 165, op := Go.Op.load 37 (Go.Operand.tmp 164), type := 37, pos := "ref.go:120", after := #[{ on := 5, ground := Go.Ground.data }, { on := 2, ground := Go.Ground.guard }], guard := some (2, true) }) (v := ?_) rfl (by kernel_rfl) (by kernel_rfl) (by kernel_rfl) (fun _ _ _ h => h) (Or.inl ⟨by rfl, ?_⟩) hHeld ?_
  rotate_left
  · intro w0 hSw; (try dsimp only at hSw); go_simp; (try with_reducible rfl)
  try simp only [Act.put, List.setIfInBounds_toArray, List.set_cons_zero, List.set_cons_succ]
  refine wpAnyH_take (i := 7) (oi := { dst := some 166, op := Go.Op.call { callee := Go.Callee.builtin Go.Builtin.len, args := #[Go.Operand.tmp 165], argTypes := #[37] }, type := 3, pos := "ref.go:120", after := #[{ on := 6, ground := Go.Ground.data }, { on := 2, ground := Go.Ground.guard }], guard := some (2, true) }) (v := ?_) rfl (by kernel_rfl) (by kernel_rfl) (by kernel_rfl) (fun _ _ _ h => h) (Or.inl ⟨by rfl, ?_⟩) hHeld ?_
  rotate_left
  · intro w0 hSw; (try dsimp only at hSw); go_simp; (try with_reducible rfl)
  try simp only [Act.put, List.setIfInBounds_toArray, List.set_cons_zero, List.set_cons_succ]
  refine wpAnyH_ready (rs := [8]) (by kernel_rfl) (by simp) ?_
  refine AllReadyH.cons (o := { dst := some 167, op := Go.Op.call { callee := Go.Callee.value (Go.Operand.func 20), args := #[Go.Operand.tmp 163, Go.Operand.tmp 166], argTypes := #[3, 3] }, type := 4, pos := "ref.go:120", after := #[{ on := 4, ground := Go.Ground.data }, { on := 7, ground := Go.Ground.data }, { on := 2, ground := Go.Ground.chain }, { on := 2, ground := Go.Ground.guard }], guard := some (2, true) }) rfl (fun K' hK' => ?_) AllReadyH.nil
  go_simp
  go_at_call 20
  refine Calls.mono (NT.out _) ?_
  rintro e w9 ⟨rfl, rfl⟩
  refine hK'.out _ _ hHeld (fun hHeld => ?_)
  clear hK' K'
  try simp only [Act.put, List.setIfInBounds_toArray, List.set_cons_zero, List.set_cons_succ]
  refine wpAnyH_take (i := 9) (oi := { dst := some 168, op := Go.Op.unOp Go.UnOp.not 4 (Go.Operand.tmp 167), type := 4, pos := "ref.go:120", after := #[{ on := 8, ground := Go.Ground.data }, { on := 2, ground := Go.Ground.guard }], guard := some (2, true) }) (v := ?_) rfl (by kernel_rfl) (by kernel_rfl) (by kernel_rfl) (fun _ _ _ h => h) (Or.inl ⟨by rfl, ?_⟩) hHeld ?_
  rotate_left
  · intro w0 hSw; (try dsimp only at hSw); go_simp; (try with_reducible rfl)
  try simp only [Act.put, List.setIfInBounds_toArray, List.set_cons_zero, List.set_cons_succ]
  refine wpAnyH_take (i := 10) (oi := { dst := some 169, op := Go.Op.move (Go.Operand.tmp 168), type := 4, pos := "ref.go:120", after := #[{ on := 9, ground := Go.Ground.data }, { on := 8, ground := Go.Ground.chain }, { on := 2, ground := Go.Ground.guard }], guard := some (2, true) }) (v := ?_) rfl (by kernel_rfl) (by kernel_rfl) (by kernel_rfl) (fun _ _ _ h => h) (Or.inl ⟨by rfl, ?_⟩) hHeld ?_
  rotate_left
  · intro w0 hSw; (try dsimp only at hSw); go_simp; (try with_reducible rfl)
  try simp only [Act.put, List.setIfInBounds_toArray, List.set_cons_zero, List.set_cons_succ]
  refine wpAnyH_take (i := 11) (oi := { dst := some 170, op := Go.Op.load 28 (Go.Operand.tmp 3), type := 28, pos := "ref.go:120", after := #[{ on := 10, ground := Go.Ground.guard }], guard := some (10, false) }) (v := ?_) rfl (by kernel_rfl) (by kernel_rfl) (by kernel_rfl) (fun _ _ _ h => h) (Or.inl ⟨by rfl, ?_⟩) hHeld ?_
  rotate_left
  · intro w0 hSw; (try dsimp only at hSw); go_simp; (try with_reducible rfl)
  try simp only [Act.put, List.setIfInBounds_toArray, List.set_cons_zero, List.set_cons_succ]
  refine wpAnyH_take (i := 12) (oi := { dst := some 171, op := Go.Op.move (Go.Operand.tmp 1), type := 3, pos := "ref.go:120", after := #[{ on := 10, ground := Go.Ground.guard }], guard := some (10, false) }) (v := ?_) rfl (by kernel_rfl) (by kernel_rfl) (by kernel_rfl) (fun _ _ _ h => h) (Or.inl ⟨by rfl, ?_⟩) hHeld ?_
  rotate_left
  · intro w0 hSw; (try dsimp only at hSw); go_simp; (try with_reducible rfl)
  try simp only [Act.put, List.setIfInBounds_toArray, List.set_cons_zero, List.set_cons_succ]
  refine wpAnyH_take (i := 13) (oi := { dst := some 172, op := Go.Op.move (Go.Operand.tmp 2), type := 3, pos := "ref.go:120", after := #[{ on := 10, ground := Go.Ground.guard }], guard := some (10, false) }) (v := ?_) rfl (by kernel_rfl) (by kernel_rfl) (by kernel_rfl) (fun _ _ _ h => h) (Or.inl ⟨by rfl, ?_⟩) hHeld ?_
  rotate_left
  · intro w0 hSw; (try dsimp only at hSw); go_simp; (try with_reducible rfl)
  try simp only [Act.put, List.setIfInBounds_toArray, List.set_cons_zero, List.set_cons_succ]
  refine wpAnyH_take (i := 15) (oi := { dst := some 174, op := Go.Op.load 28 (Go.Operand.tmp 3), type := 28, pos := "ref.go:120", after := #[{ on := 10, ground := Go.Ground.guard }], guard := some (10, false) }) (v := ?_) rfl (by kernel_rfl) (by kernel_rfl) (by kernel_rfl) (fun _ _ _ h => h) (Or.inl ⟨by rfl, ?_⟩) hHeld ?_
  rotate_left
  · intro w0 hSw; (try dsimp only at hSw); go_simp; (try with_reducible rfl)
  try simp only [Act.put, List.setIfInBounds_toArray, List.set_cons_zero, List.set_cons_succ]
  refine wpAnyH_take (i := 16) (oi := { dst := some 175, op := Go.Op.move (Go.Operand.tmp 1), type := 3, pos := "ref.go:120", after := #[{ on := 10, ground := Go.Ground.guard }], guard := some (10, false) }) (v := ?_) rfl (by kernel_rfl) (by kernel_rfl) (by kernel_rfl) (fun _ _ _ h => h) (Or.inl ⟨by rfl, ?_⟩) hHeld ?_
  rotate_left
  · intro w0 hSw; (try dsimp only at hSw); go_simp; (try with_reducible rfl)
  try simp only [Act.put, List.setIfInBounds_toArray, List.set_cons_zero, List.set_cons_succ]
  refine wpAnyH_take (i := 17) (oi := { dst := some 176, op := Go.Op.fieldAddr 33 (Go.Operand.tmp 8) 5, type := 0, pos := "ref.go:120", after := #[{ on := 10, ground := Go.Ground.guard }], guard := some (10, false) }) (v := ?_) rfl (by kernel_rfl) (by kernel_rfl) (by kernel_rfl) (fun _ _ _ h => h) (Or.inl ⟨by rfl, ?_⟩) hHeld ?_
  rotate_left
  · intro w0 hSw; (try dsimp only at hSw); go_simp; (try with_reducible rfl)
  try simp only [Act.put, List.setIfInBounds_toArray, List.set_cons_zero, List.set_cons_succ]
  refine wpAnyH_take (i := 18) (oi := { dst := some 177, op := Go.Op.load 3 (Go.Operand.tmp 176), type := 3, pos := "ref.go:120", after := #[{ on := 17, ground := Go.Ground.data }, { on := 10, ground := Go.Ground.guard }], guard := some (10, false) }) (v := ?_) rfl (by kernel_rfl) (by kernel_rfl) (by kernel_rfl) (fun _ _ _ h => h) (Or.inl ⟨by rfl, ?_⟩) hHeld ?_
  rotate_left
  · intro w0 hSw; (try dsimp only at hSw); go_simp; (try with_reducible rfl)
  try simp only [Act.put, List.setIfInBounds_toArray, List.set_cons_zero, List.set_cons_succ]
  refine wpAnyH_ready (rs := [14]) (by kernel_rfl) (by simp) ?_
  refine AllReadyH.cons (o := { dst := some 173, op := Go.Op.call { callee := Go.Callee.value (Go.Operand.func 12), args := #[Go.Operand.tmp 170, Go.Operand.tmp 171, Go.Operand.tmp 172], argTypes := #[28, 3, 3] }, type := 3, pos := "ref.go:120", after := #[{ on := 11, ground := Go.Ground.data }, { on := 12, ground := Go.Ground.data }, { on := 13, ground := Go.Ground.data }, { on := 10, ground := Go.Ground.chain }, { on := 10, ground := Go.Ground.guard }], guard := some (10, false) }) rfl (fun K' hK' => ?_) AllReadyH.nil
  go_simp
  have B9 := hid B1.out.drew
  have KC9 := hid KC.out.drew
  have KB9 := hid KB.out.drew
  have KX9 := hid KX.out.drew
  replace B1 := B9
  replace KC := KC9
  replace KB := KB9
  replace KX := KX9
  clear B9 KC9 KB9 KX9
  go_at_call 12
  refine Calls.mono (DI.out _ _ B1.out) ?_
  rintro e y1 ⟨rfl, hb⟩
  replace B1 := hid (bover B1.out hb)
  replace KC := hid (KC.out.kept hb)
  replace KB := hid (KB.out.kept hb)
  replace KX := hid (KX.out.kept hb)
  clear hb
  have hz := hid (s16 KC.out KB.out KX.out)
  refine hK'.out _ _ hz.out (fun hHeld => ?_)
  clear hK' K'
  try simp only [Act.put, List.setIfInBounds_toArray, List.set_cons_zero, List.set_cons_succ]
  refine wpAnyH_ready (rs := [19]) (by kernel_rfl) (by simp) ?_
  refine AllReadyH.cons (o := { dst := some 178, op := Go.Op.call { callee := Go.Callee.value (Go.Operand.func 12), args := #[Go.Operand.tmp 174, Go.Operand.tmp 175, Go.Operand.tmp 177], argTypes := #[28, 3, 3] }, type := 3, pos := "ref.go:120", after := #[{ on := 15, ground := Go.Ground.data }, { on := 16, ground := Go.Ground.data }, { on := 18, ground := Go.Ground.data }, { on := 14, ground := Go.Ground.chain }, { on := 10, ground := Go.Ground.guard }], guard := some (10, false) }) rfl (fun K' hK' => ?_) AllReadyH.nil
  go_simp
  go_at_call 12
  refine Calls.mono (DI.out _ _ B1.out) ?_
  rintro e y2 ⟨rfl, hb⟩
  replace B1 := hid (bover B1.out hb)
  replace KC := hid (KC.out.kept hb)
  replace KB := hid (KB.out.kept hb)
  replace KX := hid (KX.out.kept hb)
  clear hb
  have hz := hid (s16 KC.out KB.out KX.out)
  refine hK'.out _ _ hz.out (fun hHeld => ?_)
  clear hK' K'
  try simp only [Act.put, List.setIfInBounds_toArray, List.set_cons_zero, List.set_cons_succ]
  refine wpAnyH_take (i := 20) (oi := { dst := some 179, op := Go.Op.binOp Go.BinOp.neq 3 (Go.Operand.tmp 173) (Go.Operand.tmp 178) 3, type := 4, pos := "ref.go:120", after := #[{ on := 14, ground := Go.Ground.data }, { on := 19, ground := Go.Ground.data }, { on := 10, ground := Go.Ground.guard }], guard := some (10, false) }) (v := ?_) rfl (by kernel_rfl) (by kernel_rfl) (by kernel_rfl) (fun _ _ _ h => h) (Or.inl ⟨by rfl, ?_⟩) hHeld ?_
  rotate_left
  · intro w0 hSw; (try dsimp only at hSw); go_simp; (try with_reducible rfl)
  try simp only [Act.put, List.setIfInBounds_toArray, List.set_cons_zero, List.set_cons_succ]
  refine wpAnyH_take (i := 21) (oi := { dst := some 180, op := Go.Op.pick (Go.Operand.tmp 169) (Go.Operand.const (Go.Value.bool true)) (Go.Operand.tmp 179), type := 4, pos := "ref.go:120", after := #[{ on := 10, ground := Go.Ground.data }, { on := 20, ground := Go.Ground.data }, { on := 2, ground := Go.Ground.guard }], guard := some (2, true) }) (v := ?_) rfl (by kernel_rfl) (by kernel_rfl) (by kernel_rfl) (fun _ _ _ h => h) (Or.inl ⟨by rfl, ?_⟩) hHeld ?_
  rotate_left
  · intro w0 hSw; (try dsimp only at hSw); go_simp; (try with_reducible rfl)
  try simp only [Act.put, List.setIfInBounds_toArray, List.set_cons_zero, List.set_cons_succ]
  refine wpAnyH_take (i := 22) (oi := { dst := some 181, op := Go.Op.pick (Go.Operand.tmp 161) (Go.Operand.tmp 180) (Go.Operand.const (Go.Value.bool false)), type := 4, pos := "ref.go:120", after := #[{ on := 2, ground := Go.Ground.data }, { on := 21, ground := Go.Ground.data }], guard := none }) (v := ?_) rfl (by kernel_rfl) (by kernel_rfl) (by kernel_rfl) (fun _ _ _ h => h) (Or.inl ⟨by rfl, ?_⟩) hHeld ?_
  rotate_left
  · intro w0 hSw; (try dsimp only at hSw); go_simp; (try with_reducible rfl)
  try simp only [Act.put, List.setIfInBounds_toArray, List.set_cons_zero, List.set_cons_succ]
  refine wpAnyH_done (by kernel_rfl) ?_ _
  clear hHeld
  clear DI NT C116 he rT
  have hD3 : Hid (tD c i k ⟨14, dst, src, rc, n, tt, items, .slice a7 items.length p7, index, .slice a8 index.length p8⟩ = false) := hid rfl
  obtain ⟨b0, b1, b2⟩ := three0 KB.out
  obtain ⟨f0, f1, f2, f3, f4, f5, f6, f7⟩ := eight KX.out
  obtain ⟨c0, c1, c2, c3, c4⟩ := five0 KC.out
  have lb : _ < y2.heap.size := KB.out.1
  have lx : _ < y2.heap.size := KX.out.1
  have lc : _ < y2.heap.size := KC.out.1
  go_upto_region 13 with fail
  clear lb lx lc b0 b1 b2 f0 f1 f2 f3 f4 f5 f6 f7 c0 c1 c2 c3 c4
  cases z6 : ((k : Int) == (b.code.length : Int) - 1)
  rotate_left
  · have G : Hid (rr = false) := hid (by rw [F.out]; simp [insF, tE, z6])
    clear F hA hB hC3 hD3 hgl hre hst hl hsl hc hs ht hx xok bok hsec C100 C115 C110
    obtain ⟨b0, b1, b2⟩ := three0 KB.out
    obtain ⟨f0, f1, f2, f3, f4, f5, f6, f7⟩ := eight KX.out
    obtain ⟨c0, c1, c2, c3, c4⟩ := five0 KC.out
    have lb : _ < y2.heap.size := KB.out.1
    have lx : _ < y2.heap.size := KX.out.1
    have lc : _ < y2.heap.size := KC.out.1
    go_wp2_with fail
    go_ret
    exact ⟨retB G.out.symm, B1.out⟩
  have hE3 : Hid (tE b k ⟨14, dst, src, rc, n, tt, items, .slice a7 items.length p7, index, .slice a8 index.length p8⟩ = false) := hid (by simp [tE, z6])
  have F2 : Hid (rr = agreesB c i b k ⟨14, dst, src, rc, n, tt, items, .slice a7 items.length p7, index, .slice a8 index.length p8⟩) := hid (by rw [F.out]; simp [insF, hA.out, hB.out, hC3.out, hD3.out, hE3.out, isOp])
  clear F hA hB hC3 hD3 hE3
  obtain ⟨b0, b1, b2⟩ := three0 KB.out
  obtain ⟨f0, f1, f2, f3, f4, f5, f6, f7⟩ := eight KX.out
  obtain ⟨c0, c1, c2, c3, c4⟩ := five0 KC.out
  have lb : _ < y2.heap.size := KB.out.1
  have lx : _ < y2.heap.size := KX.out.1
  have lc : _ < y2.heap.size := KC.out.1
  clear hgl hre hst hl hsl hc hs ht hx xok bok hsec KC KB KX
  go_wp2_with (first | (go_at_call 44; with_reducible refine Calls.mono (C100.out _) ?_; rintro e w9 ⟨rfl, rfl⟩) | (go_at_call 44; with_reducible refine Calls.mono (C115.out _) ?_; rintro e w9 ⟨rfl, rfl⟩))
  go_ret
  exact ⟨retB (F2.out.trans (by rfl)).symm, bel2 B1.out _ _⟩

end Go.Proofs.Ytjjfhjelkioehaa
