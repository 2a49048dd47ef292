/- The walk of TreeTurned. -/
import Derived.Test.YtfdfeiempeciiaaSmall
import Derived.Test.YtfdfeiempeciiaaApp
import Derived.Test.YtfdfeiempeciiaaAlive
import Derived.Test.YtfdfeiempeciiaaInts
import Derived.Deep.CutBlock
import Derived.Deep.CutRange
import Derived.Deep.DeepCutAuto
namespace Go.Proofs.Ytfdfeiempeciiaa
open Go.ChangeShapes Go.WideShapes Go.ChangeAt Go.RowKit
set_option linter.unusedVariables false

theorem turn_i (x : Int) (n : Nat) (h0 : 0 < n) (hn : n < 140737488355328) : ∃ i : Nat, i < n ∧ wrap64 ((IntKind.u64.wrap x).tmod n) = i := by
  have e : IntKind.u64.wrap x = x % 18446744073709551616 := by simp [IntKind.wrap, IntKind.signed, IntKind.bits]
  refine ⟨((x % 18446744073709551616).toNat % n), Nat.mod_lt _ h0, ?_⟩
  rw [e, Int.tmod_eq_emod_of_nonneg (by omega)]
  have h1 : 0 ≤ x % 18446744073709551616 := by omega
  have h2 : ((x % 18446744073709551616).toNat % n : Nat) = (x % 18446744073709551616) % (n : Int) := by
    rw [Int.natCast_emod, Int.toNat_of_nonneg h1]
  have h3 : ((x % 18446744073709551616).toNat % n) < n := Nat.mod_lt _ h0
  rw [← h2]
  unfold wrap64
  omega
theorem info41 : (Try.prog.info? 41).map (·.size) = some 1 := by kernel_rfl
theorem app_zz (a : ByteArray) : (a ++ zz).toList = a.toList ++ [122] := by
  rw [ByteArray.toList_eq, ByteArray.toList_eq]
  simp [zz]
theorem turned_fin {w w8 w9 : World} {p q' : Pg} {A B : Nat} {wm : Nat} {t0' : Th} {rest : List Th} {g cap : Nat} {cur : List Value} {te : TypeId} {b : Bool} (V7 : VarAt w8 wm p.cells 29) (V8 : VarAt w8 (wm + 1) q'.cells 29) (pk8 : p.ok w8 (fun h => A ≤ h ∧ h < B)) (B8 : Below w.heap.size w w8) (hzw : w.heap.size ≤ B)
    (hg : g < wm) (hl : B ≤ g) (Q : QAt B w9 q' t0' rest g cap cur te) (t9 : Touch (fun h => h = g) w8 w9) (hs : p.same q' = b ∧ q'.same p = b) :
    VarAt w9 wm p.cells 29 ∧ VarAt w9 (wm + 1) q'.cells 29 ∧ p.ok w9 (fun _ => True) ∧ q'.ok w9 (fun _ => True) ∧ Below w.heap.size w w9 ∧ p.same q' = b ∧ q'.same p = b :=
  ⟨V7.touch t9 (by omega), V8.touch t9 (by omega), (pk8.keep (fun h hh hl => t9.block h hl (by omega))).mono (fun _ _ _ => trivial), Q.ok.mono (fun _ _ _ => trivial), B8.trans (t9.below (fun i hi => ⟨by have := B8.size; omega, by omega⟩)), hs.1, hs.2⟩
theorem turn_turn (q : Pg) (t0 : Th) (rest : List Th) (i : Nat) (s1 s2 : St) : (q.turn t0 rest i s1).turn { t0 with body := t0.body.set i s1 } rest i s2 = q.turn t0 rest i s2 := by simp [Pg.turn]
theorem QAt.set2 {B : Nat} {w w' : World} {q : Pg} {t0 : Th} {rest : List Th} {g cap : Nat} {cur : List Value} {e : TypeId} {i j : Nat} {s1 s' : St} {v : Value} (h : QAt B w (q.turn t0 rest i s1) { t0 with body := t0.body.set i s1 } rest g cap cur e) (hi : i < t0.body.length) (hj : j < 58) (hc : s'.cells = s1.cells.set j v)
    (hv : VarAt w' g (cur.set (i * 58 + j) v) e) (ht : Touch (fun b => b = g) w w') (ho : s'.ok w' (fun h => B ≤ h ∧ h ≠ g)) : QAt B w' (q.turn t0 rest i s') { t0 with body := t0.body.set i s' } rest g cap (cur.set (i * 58 + j) v) e := by
  have := h.set (i := i) (s := s1) (by simp [hi]) hj hc hv ht ho
  rw [turn_turn] at this
  simpa using this
theorem body_one {w : World} {F : Nat → Prop} {l : List St} (h : ∀ s ∈ l, s.ok w F) : ∀ x ∈ l.flatMap St.cells, x.oneCell' = true := fun x hx => by
  obtain ⟨s, hs, hx⟩ := List.mem_flatMap.1 hx
  exact (h s hs).hd.one x hx
theorem Pg.one {w : World} {F : Nat → Prop} (p : Pg) (h : p.ok w F) : ∀ v ∈ p.cells, v.oneCell' = true := by
  intro v hv
  simp only [Pg.cells, List.mem_cons, List.not_mem_nil, or_false] at hv
  rcases hv with rfl | rfl | rfl | rfl
  · exact h.1.1.one
  · exact h.2.1.1.one
  · exact h.2.2.1.1.one
  · exact h.2.2.2.1.one

set_option maxRecDepth 100000 in
set_option maxHeartbeats 4000000 in
theorem turned_any (v0 : Value) (N : List Int) (a1 a2 : Int) (w : World) (hI : IsInts w w.heap.size v0 N) (w1 : (Lit.int .i64 a1).wf = true) (w2 : (Lit.int .i64 a2).wf = true) :
    Calls Try.prog 5 #[v0, .int .i64 a1, .int .i64 a2] w fun e w' => e = .returned (.bool true) ∧ Below w.heap.size w w' := by
  have b1 := bounds_i64 w1
  have b2 := bounds_i64 w2
  clear w1 w2
  obtain ⟨av, capv, hv, hi⟩ := hI
  have hI : Hid (IsInts w w.heap.size v0 N) := hid ⟨av, capv, hv, hi⟩
  subst hv
  clear hi
  go_enter Try.func5, Try.ntmps5
  go_wp2_with fail
  refine (alive_any _).mono ?_
  rintro e wa ⟨rfl, hba⟩
  replace hba := hid hba
  by_cases hf : N.length ≤ 400
  · have hf' : decide ((N.length : Int) > 400) = false := by simp; omega
    have hIa := hid ((hI.out.keep (fun b hb => hba.out.block b hb)).up hba.out.size)
    go_wp2_with fail
    refine (make_any _ _ N hIa.out hf).mono ?_
    rintro e wb ⟨p, rfl, mp⟩
    replace mp := hid mp
    have hIb := hid ((hIa.out.keep (fun b hb => mp.out.bel.block b hb)).up mp.out.bel.size)
    go_wp2_with fail
    refine (make_any _ _ N hIb.out hf).mono ?_
    rintro e wm ⟨q, rfl, mq⟩
    replace mq := hid mq
    unfold Pg.val
    have V7 : Hid (VarAt ((wm.alloc (.cells #[.slice none 0 0, .slice none 0 0, .slice none 0 0, .slice none 0 0] 29)).alloc (.cells #[.slice none 0 0, .slice none 0 0, .slice none 0 0, .slice none 0 0] 29)) wm.heap.size [.slice none 0 0, .slice none 0 0, .slice none 0 0, .slice none 0 0] 29) := hid ((VarAt.new wm [.slice none 0 0, .slice none 0 0, .slice none 0 0, .slice none 0 0] 29).kept ((Below.refl _ _).alloc (Nat.le_refl _) _))
    have V8 : Hid (VarAt ((wm.alloc (.cells #[.slice none 0 0, .slice none 0 0, .slice none 0 0, .slice none 0 0] 29)).alloc (.cells #[.slice none 0 0, .slice none 0 0, .slice none 0 0, .slice none 0 0] 29)) (wm.heap.size + 1) [.slice none 0 0, .slice none 0 0, .slice none 0 0, .slice none 0 0] 29) := hid (by
      have := VarAt.new (wm.alloc (.cells #[.slice none 0 0, .slice none 0 0, .slice none 0 0, .slice none 0 0] 29)) [.slice none 0 0, .slice none 0 0, .slice none 0 0, .slice none 0 0] 29
      rw [World.size_alloc] at this
      exact this)
    have z0 : wm.heap.size < ((wm.alloc (.cells #[.slice none 0 0, .slice none 0 0, .slice none 0 0, .slice none 0 0] 29)).alloc (.cells #[.slice none 0 0, .slice none 0 0, .slice none 0 0, .slice none 0 0] 29)).heap.size := by simp only [World.size_alloc]; omega
    have B0 : Hid (Below wm.heap.size wm ((wm.alloc (.cells #[.slice none 0 0, .slice none 0 0, .slice none 0 0, .slice none 0 0] 29)).alloc (.cells #[.slice none 0 0, .slice none 0 0, .slice none 0 0, .slice none 0 0] 29))) := hid (below_two _ _ _)
    have o7 := hid (Pg.one p mp.out.ok)
    have o8 := hid (Pg.one q mq.out.ok)
    generalize hWW : ((wm.alloc (.cells #[.slice none 0 0, .slice none 0 0, .slice none 0 0, .slice none 0 0] 29)).alloc (.cells #[.slice none 0 0, .slice none 0 0, .slice none 0 0, .slice none 0 0] 29)) = WW at *
    replace hWW := hid hWW
    have zbc := mq.out.bel.size
    have pk0 : Hid (p.ok WW (fun g => wa.heap.size ≤ g ∧ g < wb.heap.size)) := hid ((mp.out.ok.mono (fun g hg hl => ⟨hg, hl⟩)).keep (fun g hg hl => (B0.out.block g (by omega)).trans (mq.out.bel.block g hl)))
    have BW : Hid (Below w.heap.size w WW) := hid (Below.over hba.out (Below.over mp.out.bel (Below.over mq.out.bel B0.out)))
    have Bc : Hid (∀ T W, (∀ g, T g → wm.heap.size ≤ g) → Touch T WW W → Below wm.heap.size wm W) := hid (fun T W hT t => B0.out.trans (t.below (fun i hi => ⟨by have := B0.out.size; omega, fun h => by have := hT i h; omega⟩)))
    obtain ⟨pt, ct, htv⟩ := mq.out.ok.2.2.2.1.form
    have c3 : Hid (∀ W, VarAt W (wm.heap.size + 1) q.cells 29 → W.cell? ⟨wm.heap.size + 1, 3, none⟩ = some (.slice pt q.threads.length ct)) := hid (fun W h => by rw [h.cell 3 (v := q.tv) rfl, htv])
    clear htv
    go_upto_region 6 with (first
        | (refine wl_store_part 29 _ _ rfl rfl wm.heap.size 0 rfl p.cells rfl agg29 o7.out _ _ (by rw [hWW.out]; exact V7.out) (by simp [Pg.cells]) ?_
           intro w7 V7' t7
           replace t7 := hid (hWW.out ▸ t7)
           replace V8 := hid (V8.out.touch t7.out (by omega))
           replace V7' := hid V7')
        | (refine wl_store_part 29 _ _ rfl rfl (wm.heap.size + 1) 0 rfl q.cells rfl agg29 o8.out _ _ V8.out (by simp [Pg.cells]) ?_
           intro w8 V8' t8
           replace V7' := hid (V7'.out.touch t8 (by omega))
           replace V8' := hid V8'
           replace t8 := hid t8))
    rw [splice_full _ _ (by simp [Pg.cells])] at V8' V7'
    have tt : Hid (Touch (fun g => wm.heap.size ≤ g) WW w8) := hid ((t7.out.mono (fun g _ h => by omega)).trans (t8.out.mono (fun g _ h => by omega)))
    have c3' := c3.out _ V8'.out
    clear c3 t7 t8 V7 V8 hWW o7 o8
    have Bq := hid (Bc.out _ w8 (fun g h => h) tt.out)
    have pk8 : Hid (p.ok w8 (fun g => wa.heap.size ≤ g ∧ g < wb.heap.size)) := hid (pk0.out.keep (fun g hg hl => tt.out.block g hl (by omega)))
    have B8 : Hid (Below w.heap.size w w8) := hid (Below.over hba.out (Below.over mp.out.bel (Below.over mq.out.bel Bq.out)))
    have eb : Hid (p.bare = q.bare) := hid (mp.out.bare.trans mq.out.bare.symm)
    have hzw : w.heap.size ≤ wb.heap.size := Nat.le_trans hba.out.size mp.out.bel.size
    clear pk0 BW B0 Bc z0 tt hIa hIb hI hba
    cases hth : q.threads with
    | nil =>
      have hl : q.threads.length = 0 := by rw [hth]; rfl
      rw [hl] at c3'
      go_wp2_with fail
      go_ret
      exact ⟨rfl, B8.out⟩
    | cons t0 rest =>
      have hrow := mq.out.ok.2.2.2.1
      obtain ⟨gt, ct', etv, hgt, lgt, hrg⟩ := RowAt.elem Th.len hrow (k := 0) (x := t0) (by rw [hth]; rfl)
      have c3'' : w8.cell? ⟨wm.heap.size + 1, 3, none⟩ = some (.slice (some ⟨gt, 0, none⟩) (rest.length + 1) ct') := by rw [V8'.out.cell 3 (v := q.tv) rfl, etv, hth]; rfl
      have c4 : w8.cell? ⟨gt, 0, none⟩ = some t0.bv := by
        have := hrg 0 t0.bv rfl
        rw [Nat.zero_mul] at this
        rw [Bq.out.cell (p := ⟨gt, 0, none⟩) lgt]
        exact this
      clear c3' hrow hrg etv
      have hto := mq.out.ok.2.2.2.2 t0 (by rw [hth]; simp)
      have hne : ((rest.length + 1 : Nat) == (0 : Int)) = false := by simp; omega
      have hne' : (0 : Int) < (rest.length + 1 : Nat) := by omega
      by_cases hbd : t0.body = []
      · obtain ⟨pb, cb, ebv⟩ := hto.1.form
        rw [hbd] at ebv
        rw [ebv] at c4
        simp only [List.length_nil] at c4
        clear ebv hto
        go_wp2_with fail
        go_ret
        exact ⟨rfl, B8.out⟩
      · obtain ⟨g, cap, cur, te, Q⟩ := QAt.of_make mq.out t0 rest hth hbd
        have hlg := Q.var.lt
        rw [Q.bv] at c4
        have hn0 : t0.body.length ≠ 0 := by simpa using hbd
        have hn1 : ((t0.body.length : Int) == 0) = false := by simp; omega
        have hn2 := Q.few
        replace Q := hid (Q.keep (w' := w8) (fun b _ hl => Bq.out.block b hl))
        have hlg : g < wm.heap.size := hlg
        obtain ⟨i, hi, ei⟩ := turn_i a1 t0.body.length (by omega) (by omega)
        obtain ⟨k, hk, ek⟩ := turn_i a2 8 (by omega) (by omega)
        obtain ⟨s, hs⟩ : ∃ s, t0.body[i]? = some s := ⟨_, List.getElem?_eq_getElem hi⟩
        clear hto
        go_upto_block 0 with fail
        rw [ei]
        go_cut [11] from 12 to 160 (fun v11 wx => ∃ (q' : Pg) (b : Bool), v11 = .bool b ∧ Hid (VarAt wx wm.heap.size p.cells 29 ∧ VarAt wx (wm.heap.size + 1) q'.cells 29 ∧ p.ok wx (fun _ => True) ∧ q'.ok wx (fun _ => True) ∧ Below w.heap.size w wx ∧ p.same q' = b ∧ q'.same p = b))
        case first =>
          have so := Q.out.sts s (List.mem_of_getElem? hs)
          have hlo := Q.out.low
          have sm := hid (mq.out.small t0 (by rw [hth]; simp) s (List.mem_of_getElem? hs))
          replace so := hid so
          have hk' : k = 0 ∨ k = 1 ∨ k = 2 ∨ k = 3 ∨ k = 4 ∨ k = 5 ∨ k = 6 ∨ k = 7 := by omega
          rcases hk' with rfl | rfl | rfl | rfl | rfl | rfl | rfl | rfl
          · replace ek : wrap64 ((IntKind.u64.wrap a2).tmod 8) = 0 := ek
            have c : w8.cell? ⟨g, i * 58, none⟩ = some (.int .i64 s.op) := Q.out.elem hs 0 (v := .int .i64 s.op) rfl
            go_wp2_with (refine wl_store_cell 3 _ _ rfl rfl g (i * 58) rfl (.int .i64 (wrap64 (s.op + 1))) rfl info3 rfl cur te Q.out.var (Q.out.room hi 0 (by omega)) ?_; intro w9 hv9 t9; replace hv9 := hid hv9; replace t9 := hid t9)
            go_meet
            case rel =>
              have ok9 := (St.t0_ok (Q.out.sts s (List.mem_of_getElem? hs))).keep (w' := w9) (fun b hb hl => t9.out.block b hl hb.2)
              exact ⟨_, _, rfl, hid (turned_fin (q' := q.turn t0 rest i s.t0) V7'.out V8'.out pk8.out B8.out hzw hlg hlo (Q.out.set hs (by omega) s.t0_cells hv9.out t9.out ok9) t9.out (turn_not p q eb.out t0 rest hth i s _ hs (St.t0_not so.out)))⟩
          · replace ek : wrap64 ((IntKind.u64.wrap a2).tmod 8) = 1 := ek
            have q1 : ¬ 9223372036854775807 < s.nm.size + 1 := by have := sm.out.1; omega
            have c : w8.cell? ⟨g, i * 58 + 1, none⟩ = some (.string s.nm) := Q.out.elem hs 1 (v := .string s.nm) rfl
            go_wp2_with (refine wl_store_cell 9 _ _ rfl rfl g (i * 58 + 1) rfl (.string (s.nm ++ zz)) rfl info9 rfl cur te Q.out.var (Q.out.room hi 1 (by omega)) ?_; intro w9 hv9 t9; replace hv9 := hid hv9; replace t9 := hid t9)
            go_meet
            case rel =>
              have ok9 := ((fun h => St.t1_ok h (s.nm ++ zz)) (Q.out.sts s (List.mem_of_getElem? hs))).keep (w' := w9) (fun b hb hl => t9.out.block b hl hb.2)
              exact ⟨_, _, rfl, hid (turned_fin (q' := q.turn t0 rest i (s.t1 (s.nm ++ zz))) V7'.out V8'.out pk8.out B8.out hzw hlg hlo (Q.out.set hs (by omega) (s.t1_cells _) hv9.out t9.out ok9) t9.out (turn_not p q eb.out t0 rest hth i s _ hs (St.t1_not _ (app_zz _))))⟩
          · replace ek : wrap64 ((IntKind.u64.wrap a2).tmod 8) = 2 := ek
            have c : w8.cell? ⟨g, i * 58 + 45, none⟩ = some (.int .u64 s.e.n) := Q.out.elem hs 45 (v := .int .u64 s.e.n) rfl
            go_wp2_with (refine wl_store_cell 41 _ _ rfl rfl g (i * 58 + 45) rfl (.int .u64 (uw s.e.n)) rfl info41 rfl cur te Q.out.var (Q.out.room hi 45 (by omega)) ?_; intro w9 hv9 t9; replace hv9 := hid hv9; replace t9 := hid t9)
            go_meet
            case rel =>
              have ok9 := (St.t2_ok (Q.out.sts s (List.mem_of_getElem? hs))).keep (w' := w9) (fun b hb hl => t9.out.block b hl hb.2)
              exact ⟨_, _, rfl, hid (turned_fin (q' := q.turn t0 rest i s.t2) V7'.out V8'.out pk8.out B8.out hzw hlg hlo (Q.out.set hs (by omega) s.t2_cells hv9.out t9.out ok9) t9.out (turn_not p q eb.out t0 rest hth i s _ hs (St.t2_not so.out)))⟩
          · replace ek : wrap64 ((IntKind.u64.wrap a2).tmod 8) = 3 := ek
            have c : w8.cell? ⟨g, i * 58 + 16, none⟩ = some (.int .i64 s.right.place.index.bin) := Q.out.elem hs 16 (v := .int .i64 s.right.place.index.bin) rfl
            go_wp2_with (refine wl_store_cell 3 _ _ rfl rfl g (i * 58 + 16) rfl (.int .i64 (wrap64 (s.right.place.index.bin + 1))) rfl info3 rfl cur te Q.out.var (Q.out.room hi 16 (by omega)) ?_; intro w9 hv9 t9; replace hv9 := hid hv9; replace t9 := hid t9)
            go_meet
            case rel =>
              have ok9 := (St.t3_ok (Q.out.sts s (List.mem_of_getElem? hs))).keep (w' := w9) (fun b hb hl => t9.out.block b hl hb.2)
              exact ⟨_, _, rfl, hid (turned_fin (q' := q.turn t0 rest i s.t3) V7'.out V8'.out pk8.out B8.out hzw hlg hlo (Q.out.set hs (by omega) s.t3_cells hv9.out t9.out ok9) t9.out (turn_not p q eb.out t0 rest hth i s _ hs (St.t3_not so.out)))⟩
          · replace ek : wrap64 ((IntKind.u64.wrap a2).tmod 8) = 4 := ek
            have hrb := so.out.hd.2.2.2.2.2.1
            have hb1 := hid (body_one so.out.bodies)
            obtain ⟨pb, cb, ebv⟩ := hrb.form
            have ba : Hid (Below w8.heap.size w8 (w8.alloc (.cells #[] 52))) := hid ((Below.refl _ _).alloc (Nat.le_refl _) _)
            have c : (w8.alloc (.cells #[] 52)).cell? ⟨g, i * 58 + 54, none⟩ = some (.slice pb s.body.length cb) := by
              rw [ba.out.cell (p := ⟨g, i * 58 + 54, none⟩) Q.out.var.lt]
              exact Q.out.elem hs 54 (v := .slice pb s.body.length cb) (by rw [← ebv]; rfl)
            have hra := hrb.kept ba.out
            rw [ebv] at hra
            replace hra := hid hra
            have hb3 := sm.out.2.2.1
            have zw8 := Q.out.var.lt
            clear hrb ebv
            go_wp2_with (first
              | (at_builtin
                 refine wl_append_row rfl _ _ 35 rfl w8.heap.size 52 St.zero.val 58 688 Try.underlying35 info52 rfl (by decide) (.slice (some ⟨w8.heap.size, 0, none⟩) 0 0) rfl 0 [] (own_empty w8 52 58) (.slice pb s.body.length cb) rfl _ s.body.length (s.body.flatMap St.cells) hra.out hb1.out (by omega) (by omega) (by simp) ?_
                 intro v1 y1 ho1 hg1 hk1
                 rw [Nat.zero_add, List.nil_append] at ho1
                 obtain ⟨a1', c1', rfl⟩ := own_slice ho1
                 have by1 : Hid (Below w8.heap.size w8 y1) := hid (ba.out.trans ((Touch.of_grown (T := fun b => b = w8.heap.size) hg1 (fun b hb => by simp [Value.ownBlock] at hb; omega)).below (fun b hb => ⟨by simp; omega, by omega⟩)))
                 replace ho1 := hid ho1
                 clear hg1 hk1)
              | refine wl_build52 rfl rfl ?_
              | refine wl_slice1 35 52 _ 58 688 _ rfl rfl Try.underlying35 info52 (by omega) (by omega) St.zero.cells rfl rfl ?_
              | (at_builtin
                 refine wl_append_row rfl _ _ 35 rfl w8.heap.size 52 St.zero.val 58 688 Try.underlying35 info52 rfl (by decide) _ rfl _ _ (ho1.out.alloc _) (.slice (some ⟨y1.heap.size, 0, none⟩) 1 1) rfl (fun _ => True) 1 St.zero.cells (RowAt.made y1 St.zero.cells 52 (fun _ => True) trivial 58 rfl) ((St.zero_ok y1 (fun _ => True)).hd.one) (by omega) (by omega) (by have := by1.out.size; simp only [World.size_alloc]; omega) ?_
                 intro v2 y2 ho2 hg2 hk2
                 obtain ⟨a2', c2', rfl⟩ := own_slice ho2
                 have by2 : Hid (Below w8.heap.size w8 y2) := hid ((by1.out.alloc by1.out.size _).trans ((Touch.of_grown (T := fun b => w8.heap.size ≤ b) hg2 (fun b hb => (own_lt ho1.out hb).1)).below (fun b hb => ⟨by have := by1.out.size; simp only [World.size_alloc]; omega, by omega⟩)))
                 replace ho2 := hid ho2
                 replace Q := hid (Q.out.keep (w' := y2) (fun b _ hl => by2.out.block b hl))
                 replace V7' := hid (V7'.out.kept by2.out)
                 replace V8' := hid (V8'.out.kept by2.out)
                 replace pk8 := hid (pk8.out.kept by2.out)
                 replace B8 := hid (Below.over B8.out by2.out)
                 replace so := hid (so.out.kept by2.out)
                 clear hg2 hk2 ho1)
              | (refine wl_store_cell 35 _ _ rfl rfl g (i * 58 + 54) rfl (.slice a2' (s.body.length + 1) c2') rfl info35 rfl cur te Q.out.var (Q.out.room hi 54 (by omega)) ?_; intro w9 hv9 t9; replace hv9 := hid hv9; replace t9 := hid t9))
            go_meet
            case rel =>
              have ho3 := RowAt.of_owns (F := fun h => wb.heap.size ≤ h ∧ h ≠ g) ho2.out (by omega) (fun b hb => by have := own_lt ho2.out hb; omega)
              have ok8 := St.t4_ok so.out (.slice a2' (s.body.length + 1) c2') ho3
              have ok9 := ok8.keep (w' := w9) (fun b hb hl => t9.out.block b hl hb.2)
              exact ⟨_, _, rfl, hid (turned_fin (q' := q.turn t0 rest i (s.t4 (.slice a2' (s.body.length + 1) c2'))) V7'.out V8'.out pk8.out B8.out hzw hlg hlo (Q.out.set hs (by omega) (s.t4_cells _) hv9.out t9.out ok9) t9.out (turn_not p q eb.out t0 rest hth i s _ hs (St.t4_not _)))⟩
          · replace ek : wrap64 ((IntKind.u64.wrap a2).tmod 8) = 5 := ek
            have q1 : ¬ 9223372036854775807 < s.place.field.size + 1 := by have := sm.out.2.1; omega
            have c : w8.cell? ⟨g, i * 58 + 31, none⟩ = some (.string s.place.field) := Q.out.elem hs 31 (v := .string s.place.field) rfl
            go_wp2_with (refine wl_store_cell 9 _ _ rfl rfl g (i * 58 + 31) rfl (.string (s.place.field ++ zz)) rfl info9 rfl cur te Q.out.var (Q.out.room hi 31 (by omega)) ?_; intro w9 hv9 t9; replace hv9 := hid hv9; replace t9 := hid t9)
            go_meet
            case rel =>
              have ok9 := ((fun h => St.t5_ok h (s.place.field ++ zz)) (Q.out.sts s (List.mem_of_getElem? hs))).keep (w' := w9) (fun b hb hl => t9.out.block b hl hb.2)
              exact ⟨_, _, rfl, hid (turned_fin (q' := q.turn t0 rest i (s.t5 (s.place.field ++ zz))) V7'.out V8'.out pk8.out B8.out hzw hlg hlo (Q.out.set hs (by omega) (s.t5_cells _) hv9.out t9.out ok9) t9.out (turn_not p q eb.out t0 rest hth i s _ hs (St.t5_not _ (app_zz _))))⟩
          · replace ek : wrap64 ((IntKind.u64.wrap a2).tmod 8) = 6 := ek
            go_wp2_with (refine wl_store_cell 9 _ _ rfl rfl g (i * 58 + 7) rfl (.string zz) rfl info9 rfl cur te Q.out.var (Q.out.room hi 7 (by omega)) ?_; intro w9 hv9 t9; replace hv9 := hid hv9; replace t9 := hid t9)
            go_meet
            case rel =>
              have ok9 := (St.t6_ok (Q.out.sts s (List.mem_of_getElem? hs))).keep (w' := w9) (fun b hb hl => t9.out.block b hl hb.2)
              exact ⟨_, _, rfl, hid (turned_fin (q' := q.turn t0 rest i s.t6) V7'.out V8'.out pk8.out B8.out hzw hlg hlo (Q.out.set hs (by omega) s.t6_cells hv9.out t9.out ok9) t9.out (turn_not p q eb.out t0 rest hth i s _ hs (St.t6_not (mq.out.tr t0 (by rw [hth]; simp) s (List.mem_of_getElem? hs)))))⟩
          · replace ek : wrap64 ((IntKind.u64.wrap a2).tmod 8) = 7 := ek
            have nk : Hid (∀ W W' : World, Touch (fun b => b = g) W W' → ∀ b, (wb.heap.size ≤ b ∧ b ≠ g) → b < W.heap.size → W'.heap[b]? = W.heap[b]?) := hid (fun W W' t b hb hl => t.block b hl hb.2)
            have hr1 := Q.out.room hi 56 (by omega)
            have hr2 := Q.out.room hi 57 (by omega)
            have hr3 := Q.out.room hi 50 (by omega)
            have hr4 := Q.out.room hi 25 (by omega)
            go_wp2_with (first
              | (refine wl_store_cell 3 _ _ rfl rfl g (i * 58 + 56) rfl (.int .i64 5) rfl info3 rfl cur te Q.out.var hr1 ?_
                 intro wA hv t
                 have oA := hid (St.t7a_ok (so.out.keep (nk.out _ _ t)))
                 have QA := hid (Q.out.set hs (by omega) s.t7a_cells hv t oA.out)
                 have TA := hid t
                 clear hv t)
              | (refine wl_store_cell 3 _ _ rfl rfl g (i * 58 + 57) rfl (.int .i64 6) rfl info3 rfl _ te QA.out.var (by simpa using hr2) ?_
                 intro wB hv t
                 have oB := hid (St.t7b_ok (oA.out.keep (nk.out _ _ t)))
                 have QB := hid (QA.out.set2 hi (by omega) s.t7a.t7b_cells hv t oB.out)
                 have TB := hid (TA.out.trans t)
                 clear hv t QA TA oA)
              | (refine wl_store_cell 3 _ _ rfl rfl g (i * 58 + 50) rfl (.int .i64 7) rfl info3 rfl _ te QB.out.var (by simpa using hr3) ?_
                 intro wC hv t
                 have oC := hid (St.t7c_ok (oB.out.keep (nk.out _ _ t)))
                 have QC := hid (QB.out.set2 hi (by omega) s.t7a.t7b.t7c_cells hv t oC.out)
                 have TC := hid (TB.out.trans t)
                 clear hv t QB TB oB)
              | (refine wl_store_cell 3 _ _ rfl rfl g (i * 58 + 25) rfl (.int .i64 8) rfl info3 rfl _ te QC.out.var (by simpa using hr4) ?_
                 intro wD hv t
                 have oD := hid (St.t7d_ok (oC.out.keep (nk.out _ _ t)))
                 have QD := hid (QC.out.set2 hi (by omega) s.t7a.t7b.t7c.t7d_cells hv t oD.out)
                 have TD := hid (TC.out.trans t)
                 clear hv t QC TC oC))
            go_meet
            case rel =>
              exact ⟨_, _, rfl, hid (turned_fin (q' := q.turn t0 rest i s.t7) V7'.out V8'.out pk8.out B8.out hzw hlg hlo QD.out TD.out (turn_yes p q eb.out t0 rest hth i s _ hs St.t7_yes))⟩
        case rest =>
          obtain ⟨q', b, rfl, hx⟩ := hcut
          obtain ⟨x1, x2, x3, x4, x5, x6, x7⟩ := hx.out
          have C1 := same_any p q' wc _ _ x3 x4
          rw [x6] at C1
          have C2 := hid (fun W (hW : Below wc.heap.size wc W) => same_any q' p W _ _ (x4.kept hW) (x3.kept hW))
          rw [x7] at C2
          have r1 := hid x1
          have r2 := hid x2
          have hbb : (b == b) = true := by simp
          clear x1 x2 x3 x4 x6 x7 hx
          replace x5 := hid x5
          go_wp2_with (first
            | refine wl_load 29 _ rfl rfl wm.heap.size 0 rfl p.cells r1.out.range agg29 ?_
            | refine wl_load 29 _ rfl rfl (wm.heap.size + 1) 0 rfl q'.cells r2.out.range agg29 ?_
            | (go_at_call 9
               refine C1.mono ?_
               rintro e wy ⟨rfl, hy⟩
               replace r1 := hid (r1.out.kept hy)
               replace r2 := hid (r2.out.kept hy)
               replace hy := hid hy
               clear C1)
            | (go_at_call 9
               refine (C2.out _ hy.out).mono ?_
               rintro e wz ⟨rfl, hz⟩
               replace hz := hid hz))
          go_ret
          exact ⟨rfl, Below.over x5.out (Below.over hy.out hz.out)⟩
  · have hf' : decide ((N.length : Int) > 400) = true := by simp; omega
    go_wp2_with fail
    go_ret
    exact ⟨rfl, hba.out⟩
end Go.Proofs.Ytfdfeiempeciiaa
