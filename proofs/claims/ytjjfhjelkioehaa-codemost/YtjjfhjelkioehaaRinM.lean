/- Contract of the document's instr: all kinds. -/
import Derived.Test.YtjjfhjelkioehaaRinC
import Derived.Test.YtjjfhjelkioehaaSm3
import Derived.Test.YtjjfhjelkioehaaRinO
import Derived.Test.YtjjfhjelkioehaaRinN
import Derived.Test.YtjjfhjelkioehaaRinF
import Derived.Test.YtjjfhjelkioehaaRinE
import Derived.Test.YtjjfhjelkioehaaRinD
import Derived.Test.YtjjfhjelkioehaaRGood
namespace Go.Proofs.Ytjjfhjelkioehaa
open Go.ChangeShapes Go.WideShapes Go.ChangeAt Go.RowKit
set_option linter.unusedVariables false
set_option linter.unusedSimpArgs false

set_option maxRecDepth 100000 in
set_option maxHeartbeats 4000000 in
theorem rinOut (c : Cd) (i k : Nat) (b : Bd) (op : Int) (ho : op < 1 ∨ 17 < op) (dst src rc n tt : Int) (items index : List Itm) (iv xv : Value) (w : World) (hc : c.okW w) (hs : SmallP c) (ht : c.threads[i]? = some b) (hx : b.code[k]? = some ⟨op, dst, src, rc, n, tt, items, iv, index, xv⟩)
    (hl : ∀ (j : Nat) (l : Loc), b.slots[j]? = some l → locOk c.recs.length l = true) :
    Calls Try.prog 21 #[.agg #[c.rv, c.gv, c.tv, c.ev, c.cv], .int .i64 i, .int .i64 k] w fun e w' => e = .returned (.bool (insOk c i b k ⟨op, dst, src, rc, n, tt, items, iv, index, xv⟩)) ∧ Below w.heap.size w w' := by
  obtain ⟨a0, p0, a1, p1, a2, p2, a3, p3, a4, p4, e0, e1, e2, e3, e4⟩ := cd_open hc
  have hit := (List.getElem?_eq_some_iff.1 ht).1
  have hkt := (List.getElem?_eq_some_iff.1 hx).1
  obtain ⟨at', ct, et, hT⟩ := bd_cells hc.2.2.1
  rw [e2] at et; cases et
  obtain ⟨b', bt, ot, a5, p5, a6, p6, hb', rfl, hbt, e5, e6, t0, t1, t2, bok⟩ := hT i hit
  rw [ht] at hb'; cases hb'
  obtain ⟨ac, cc, ec, hC⟩ := ins_cells bok.2.2
  rw [e6] at ec; cases ec
  obtain ⟨x', bi, oi, a7, p7, a8, p8, hx', rfl, hbi, e7, e8, ⟨d0, d1, d2, d3, d4, d5, d6, d7⟩, xok⟩ := hC k hkt
  rw [hx] at hx'; cases hx'
  simp only at e7 e8 d0 d1 d2 d3 d4 d5 d6 d7
  subst e7 e8
  have q1 := hs.l1
  have q3 := hs.l3
  have q5 := hs.l5
  have qs := hs.slots i b ht
  have qc := hs.code i b ht
  have qi := hs.items i b ht k _ hx
  simp only at qi
  obtain ⟨qi1, qi2⟩ := qi
  have ii : (i : Int) < (c.threads.length : Int) := by omega
  have kk : (k : Int) < (b.code.length : Int) := by omega
  have hsec := hc.2.2.2.2
  rw [e4] at hsec
  have Hd : hasC ⟨#[63]⟩ 100 = false := by decide
  have Hs : hasC ⟨#[63]⟩ 115 = false := by decide
  have Hr : hasC ⟨#[63]⟩ 114 = false := by decide
  have Hn : hasC ⟨#[63]⟩ 110 = false := by decide
  have Ht : hasC ⟨#[63]⟩ 116 = false := by decide
  have Hi : hasC ⟨#[63]⟩ 105 = false := by decide
  have Hx : hasC ⟨#[63]⟩ 120 = false := by decide
  have HH := fun W => Has_out op W ho
  have Nd := fun W => in_any dst (b.slots.length : Int) b.slots.length rfl W
  have Ni : ∀ W, Below w.heap.size w W → Calls Try.prog 45 #[.slice a7 items.length p7, .int .i64 (b.slots.length : Int)] W fun e w' => e = .returned (.bool (goodB (b.slots.length : Int) items)) ∧ Below W.heap.size W w' := fun W h => by
    obtain ⟨a, cap, e, hI⟩ := (Items.kept xok.2.1 h).at
    simp only at e
    cases e
    exact rgood_any (b.slots.length : Int) a7 items.length p7 items W rfl hI (by omega) (by omega) (by omega)
  have DI := fun (pl : Int) W (h : Below w.heap.size w W) => rinside_any (.slice a0 c.recs.length p0) (.slice a1 c.globs.length p1) (.slice (some ⟨bt, ot, none⟩) c.threads.length p2) (.slice a3 c.sites.length p3) (.slice a4 c.secs.length p4) c.secs i pl W (Secs.kept hsec h) (by omega)
  clear Nd Ni
  have C100 : HasSays ⟨#[63]⟩ 100 false := fun W => by have h := has_any ⟨#[63]⟩ 100 W (by decide); rw [Hd] at h; exact h
  have C115 : HasSays ⟨#[63]⟩ 115 false := fun W => by have h := has_any ⟨#[63]⟩ 115 W (by decide); rw [Hs] at h; exact h
  have C114 : HasSays ⟨#[63]⟩ 114 false := fun W => by have h := has_any ⟨#[63]⟩ 114 W (by decide); rw [Hr] at h; exact h
  have C110 : HasSays ⟨#[63]⟩ 110 false := fun W => by have h := has_any ⟨#[63]⟩ 110 W (by decide); rw [Hn] at h; exact h
  have C116 : HasSays ⟨#[63]⟩ 116 false := fun W => by have h := has_any ⟨#[63]⟩ 116 W (by decide); rw [Ht] at h; exact h
  have C105 : HasSays ⟨#[63]⟩ 105 false := fun W => by have h := has_any ⟨#[63]⟩ 105 W (by decide); rw [Hi] at h; exact h
  have C120 : HasSays ⟨#[63]⟩ 120 false := fun W => by have h := has_any ⟨#[63]⟩ 120 W (by decide); rw [Hx] at h; exact h
  have hq : ((⟨#[63]⟩ : ByteArray).toList == (⟨#[63]⟩ : ByteArray).toList) = true := by first | kernel_rfl | rfl | (simp [ByteArray.toList, ByteArray.toList.loop]; done)
  have D100 : InSays dst (b.slots.length : Int) (isIn dst b.slots.length) := fun W => in_any dst (b.slots.length : Int) b.slots.length rfl W
  have D115 : InSays src (b.slots.length : Int) (isIn src b.slots.length) := fun W => in_any src (b.slots.length : Int) b.slots.length rfl W
  have D114 : InSays rc (c.recs.length : Int) (isIn rc c.recs.length) := fun W => in_any rc (c.recs.length : Int) c.recs.length rfl W
  have D105 : GoodSays w (.slice a7 items.length p7) (b.slots.length : Int) (goodB (b.slots.length : Int) items) := fun W h => by
    obtain ⟨a, cap, e, hI⟩ := (Items.kept xok.2.1 h).at
    simp only at e
    cases e
    exact rgood_any (b.slots.length : Int) a7 items.length p7 items W rfl hI (by omega) (by omega) (by omega)
  have D120 : GoodSays w (.slice a8 index.length p8) (b.slots.length : Int) (goodB (b.slots.length : Int) index) := fun W h => by
    obtain ⟨a, cap, e, hI⟩ := (Items.kept xok.2.2 h).at
    simp only at e
    cases e
    exact rgood_any (b.slots.length : Int) a8 index.length p8 index W rfl hI (by omega) (by omega) (by omega)
  rw [e0, e1, e2, e3, e4]
  have hsl := bok.2.1
  rw [e5] at hsl
  have hgl := hc.2.1
  rw [e1] at hgl
  have hre := hc.1
  rw [e0] at hre
  have hst := hc.2.2.2.1
  rw [e3] at hst
  have BB := below3 w (.cells #[.slice a0 c.recs.length p0, .slice a1 c.globs.length p1, .slice (some ⟨bt, ot, none⟩) c.threads.length p2, .slice a3 c.sites.length p3, .slice a4 c.secs.length p4] 28) (.cells #[.slice a5 b.slots.length p5, .slice (some ⟨bi, oi, none⟩) b.code.length p6, .int .i64 b.most] 39) (.cells #[.int .i64 op, .int .i64 dst, .int .i64 src, .int .i64 rc, .int .i64 n, .int .i64 tt, .slice a7 items.length p7, .slice a8 index.length p8] 33)
  have KC0 := ((BoxAt.new w #[.slice a0 c.recs.length p0, .slice a1 c.globs.length p1, .slice (some ⟨bt, ot, none⟩) c.threads.length p2, .slice a3 c.sites.length p3, .slice a4 c.secs.length p4] 28).past (.cells #[.slice a5 b.slots.length p5, .slice (some ⟨bi, oi, none⟩) b.code.length p6, .int .i64 b.most] 39)).past (.cells #[.int .i64 op, .int .i64 dst, .int .i64 src, .int .i64 rc, .int .i64 n, .int .i64 tt, .slice a7 items.length p7, .slice a8 index.length p8] 33)
  have KB0 := (BoxAt.new (w.alloc (.cells #[.slice a0 c.recs.length p0, .slice a1 c.globs.length p1, .slice (some ⟨bt, ot, none⟩) c.threads.length p2, .slice a3 c.sites.length p3, .slice a4 c.secs.length p4] 28)) #[.slice a5 b.slots.length p5, .slice (some ⟨bi, oi, none⟩) b.code.length p6, .int .i64 b.most] 39).past (.cells #[.int .i64 op, .int .i64 dst, .int .i64 src, .int .i64 rc, .int .i64 n, .int .i64 tt, .slice a7 items.length p7, .slice a8 index.length p8] 33)
  have KX0 := BoxAt.new ((w.alloc (.cells #[.slice a0 c.recs.length p0, .slice a1 c.globs.length p1, .slice (some ⟨bt, ot, none⟩) c.threads.length p2, .slice a3 c.sites.length p3, .slice a4 c.secs.length p4] 28)).alloc (.cells #[.slice a5 b.slots.length p5, .slice (some ⟨bi, oi, none⟩) b.code.length p6, .int .i64 b.most] 39)) #[.int .i64 op, .int .i64 dst, .int .i64 src, .int .i64 rc, .int .i64 n, .int .i64 tt, .slice a7 items.length p7, .slice a8 index.length p8] 33
  simp only [World.size_alloc] at KB0 KX0
  have F : Hid (insOk c i b k ⟨op, dst, src, rc, n, tt, items, .slice a7 items.length p7, index, .slice a8 index.length p8⟩ = insF c i b k ⟨op, dst, src, rc, n, tt, items, .slice a7 items.length p7, index, .slice a8 index.length p8⟩) := hid (insOk_eq _ _ _ _ _)
  generalize hrr : insOk c i b k ⟨op, dst, src, rc, n, tt, items, .slice a7 items.length p7, index, .slice a8 index.length p8⟩ = rr at *
  clear e0 e1 e2 e3 e4 e5 e6 hT hC hrr
  replace C100 := hid C100
  replace C115 := hid C115
  replace C114 := hid C114
  replace C110 := hid C110
  replace C116 := hid C116
  replace C105 := hid C105
  replace C120 := hid C120
  replace D100 := hid D100
  replace D115 := hid D115
  replace D114 := hid D114
  replace D105 := hid D105
  replace D120 := hid D120
  replace KC0 := hid KC0
  replace KB0 := hid KB0
  replace KX0 := hid KX0
  replace DI := hid DI
  replace HH := hid HH
  replace BB := hid BB
  replace hl := hid hl
  replace hsl := hid hsl
  replace hgl := hid hgl
  replace hre := hid hre
  replace hst := hid hst
  replace hc := hid hc
  replace hs := hid hs
  replace ht := hid ht
  replace hx := hid hx
  replace xok := hid xok
  replace bok := hid bok
  replace hsec := hid hsec
  replace hq := hid hq
  go_enter Try.func21, Try.ntmps21
  go_upto_region 4 with (go_at_call 43; refine Calls.mono (HH.out _) ?_; rintro e w1 ⟨rfl, hb⟩; have B1 := hid (bover BB.out hb); have KC := hid (KC0.out.kept hb); have KB := hid (KB0.out.kept hb); have KX := hid (KX0.out.kept hb); clear KC0 KB0 KX0 BB hb)
  refine region4_any (cA := true) hq.out C100.out C115.out C114.out C110.out C116.out C105.out C120.out KX.out (by simp) ?_
  intro g
  have G : Hid (rr = false) := hid (by
    have e : isOp op = false := by unfold isOp; rcases ho with h | h <;> simp <;> omega
    rw [F.out]; simp [insF, e])
  clear F DI KC KB KX hgl hre hst hl hsl hc hs ht hx xok bok hsec C100 C115 C114 C110 C116 C105 C120 D100 D115 D114 D105 D120 t0 t1 t2 d0 d1 d2 d3 d4 d5 d6 d7 Hd Hs Hr Hn Ht Hi Hx HH hq ii q1 q3 q5 qs qi1 qi2
  go_wp2_with fail
  go_ret
  exact ⟨retB G.out.symm, B1.out⟩

/-- What the document's instr answers. -/
theorem rinstr_any (c : Cd) (i k : Nat) (b : Bd) (x : Ins) (w : World) (hc : c.okW w) (hs : SmallP c) (ht : c.threads[i]? = some b) (hx : b.code[k]? = some x)
    (hl : ∀ (j : Nat) (l : Loc), b.slots[j]? = some l → locOk c.recs.length l = true) :
    Calls Try.prog 21 #[.agg #[c.rv, c.gv, c.tv, c.ev, c.cv], .int .i64 i, .int .i64 k] w fun e w' => e = .returned (.bool (insOk c i b k x)) ∧ Below w.heap.size w w' := by
  obtain ⟨op, dst, src, rc, n, tt, items, iv, index, xv⟩ := x
  by_cases ho : op < 1 ∨ 17 < op
  · exact rinOut c i k b op ho dst src rc n tt items index iv xv w hc hs ht hx hl
  · have h : op = 1 ∨ op = 2 ∨ op = 3 ∨ op = 4 ∨ op = 5 ∨ op = 6 ∨ op = 7 ∨ op = 8 ∨ op = 9 ∨ op = 10 ∨ op = 11 ∨ op = 12 ∨ op = 13 ∨ op = 14 ∨ op = 15 ∨ op = 16 ∨ op = 17 := by omega
    rcases h with rfl | rfl | rfl | rfl | rfl | rfl | rfl | rfl | rfl | rfl | rfl | rfl | rfl | rfl | rfl | rfl | rfl
    · exact rin1 c i k b dst src rc n tt items index iv xv w hc hs ht hx hl
    · exact rin2 c i k b dst src rc n tt items index iv xv w hc hs ht hx hl
    · exact rin3 c i k b dst src rc n tt items index iv xv w hc hs ht hx hl
    · exact rin4 c i k b dst src rc n tt items index iv xv w hc hs ht hx hl
    · exact rin5 c i k b dst src rc n tt items index iv xv w hc hs ht hx hl
    · exact rin6 c i k b dst src rc n tt items index iv xv w hc hs ht hx hl
    · exact rin7 c i k b dst src rc n tt items index iv xv w hc hs ht hx hl
    · exact rin8 c i k b dst src rc n tt items index iv xv w hc hs ht hx hl
    · exact rin9 c i k b dst src rc n tt items index iv xv w hc hs ht hx hl
    · exact rin10 c i k b dst src rc n tt items index iv xv w hc hs ht hx hl
    · exact rin11 c i k b dst src rc n tt items index iv xv w hc hs ht hx hl
    · exact rin12 c i k b dst src rc n tt items index iv xv w hc hs ht hx hl
    · exact rin13 c i k b dst src rc n tt items index iv xv w hc hs ht hx hl
    · exact rin14 c i k b dst src rc n tt items index iv xv w hc hs ht hx hl
    · exact rin15 c i k b dst src rc n tt items index iv xv w hc hs ht hx hl
    · exact rin16 c i k b dst src rc n tt items index iv xv w hc hs ht hx hl
    · exact rin17 c i k b dst src rc n tt items index iv xv w hc hs ht hx hl
end Go.Proofs.Ytjjfhjelkioehaa
