/- The contract of the statements' sets: rows laid out as globals, slots and fields. -/
import Derived.Test.YtdpbapoahfggeaaDoorMt
namespace Go.Proofs.YtdpbapoahfggeaaDoor
open Go.ChangeShapes Go.WideShapes Go.ChangeAt Go.RowKit Go.Deep
set_option linter.unusedVariables false
set_option linter.unusedSimpArgs false

def setS (L : List (List Nat)) : Nat → List (List Nat)
  | 0 => []
  | i + 1 => if i % 2 = 1 then setS L i ++ [L.getD i []] else setS L i
def setF (L : List (List Nat)) : Nat → List (List Nat)
  | 0 => []
  | i + 1 => if i ≠ 0 ∧ i % 2 = 0 then setF L i ++ [L.getD i []] else setF L i
def setG0 (L : List (List Nat)) (i : Nat) : List Nat := if i = 0 then [] else L.getD 0 []
theorem setS_yes {L : List (List Nat)} {i : Nat} (h : i % 2 = 1) : setS L (i + 1) = setS L i ++ [L.getD i []] := if_pos h
theorem setS_no {L : List (List Nat)} {i : Nat} (h : ¬ i % 2 = 1) : setS L (i + 1) = setS L i := if_neg h
theorem setF_yes {L : List (List Nat)} {i : Nat} (h : i ≠ 0 ∧ i % 2 = 0) : setF L (i + 1) = setF L i ++ [L.getD i []] := if_pos h
theorem setF_no {L : List (List Nat)} {i : Nat} (h : ¬ (i ≠ 0 ∧ i % 2 = 0)) : setF L (i + 1) = setF L i := if_neg h
theorem setS_len (L : List (List Nat)) : ∀ i, (setS L i).length ≤ i
  | 0 => Nat.le_refl _
  | i + 1 => by
    have := setS_len L i
    unfold setS
    split
    · simp; omega
    · omega
theorem setF_len (L : List (List Nat)) : ∀ i, (setF L i).length ≤ i
  | 0 => Nat.le_refl _
  | i + 1 => by
    have := setF_len L i
    unfold setF
    split
    · simp; omega
    · omega
theorem setS_small {L : List (List Nat)} (h : Sm64 L) : ∀ i, i ≤ L.length → Sm64 (setS L i)
  | 0, _ => fun l hl => by cases hl
  | i + 1, hi => fun l hl => by
    unfold setS at hl
    split at hl
    · rcases List.mem_append.1 hl with q | q
      · exact setS_small h i (by omega) l q
      · simp at q; subst q
        exact h _ (by simp [show i < L.length by omega])
    · exact setS_small h i (by omega) l hl
theorem setF_small {L : List (List Nat)} (h : Sm64 L) : ∀ i, i ≤ L.length → Sm64 (setF L i)
  | 0, _ => fun l hl => by cases hl
  | i + 1, hi => fun l hl => by
    unfold setF at hl
    split at hl
    · rcases List.mem_append.1 hl with q | q
      · exact setF_small h i (by omega) l q
      · simp at q; subst q
        exact h _ (by simp [show i < L.length by omega])
    · exact setF_small h i (by omega) l hl
theorem setG_small {L : List (List Nat)} (h : Sm64 L) (i : Nat) (hi : i ≤ L.length) : Sm64 [setG0 L i] := fun l hl => by
  simp at hl
  subst hl
  unfold setG0
  split
  · intro x hx; cases hx
  · exact h _ (by simp [show 0 < L.length by omega])
def flatS (L : List (List Nat)) (i : Nat) : List Nat := (setS L i).flatten ++ setG0 L i ++ (setF L i).flatten
/-- Nothing is lost, nothing comes in. -/
theorem mem_flatS {L : List (List Nat)} {x : Nat} : ∀ i, x ∈ flatS L i ↔ ∃ j, j < i ∧ x ∈ L.getD j []
  | 0 => by simp [flatS, setS, setF, setG0]
  | i + 1 => by
    have ih := mem_flatS (L := L) (x := x) i
    have key : x ∈ flatS L (i + 1) ↔ x ∈ flatS L i ∨ x ∈ L.getD i [] := by
      unfold flatS
      by_cases h0 : i = 0
      · subst h0
        rw [setS_no (by decide), setF_no (by simp)]
        simp [setG0, setS, setF]
      · have hg : setG0 L (i + 1) = setG0 L i := by simp [setG0, h0]
        rw [hg]
        by_cases h1 : i % 2 = 1
        · rw [setS_yes h1, setF_no (by omega)]
          simp only [List.flatten_append, List.mem_append, List.flatten_singleton]
          constructor
          · rintro (((q | q) | q) | q)
            · exact .inl (.inl (.inl q))
            · exact .inr q
            · exact .inl (.inl (.inr q))
            · exact .inl (.inr q)
          · rintro (((q | q) | q) | q)
            · exact .inl (.inl (.inl q))
            · exact .inl (.inr q)
            · exact .inr q
            · exact .inl (.inl (.inr q))
        · rw [setS_no h1, setF_yes ⟨h0, by omega⟩]
          simp only [List.flatten_append, List.mem_append, List.flatten_singleton]
          constructor
          · rintro ((q | q) | (q | q))
            · exact .inl (.inl (.inl q))
            · exact .inl (.inl (.inr q))
            · exact .inl (.inr q)
            · exact .inr q
          · rintro (((q | q) | q) | q)
            · exact .inl (.inl q)
            · exact .inl (.inr q)
            · exact .inr (.inl q)
            · exact .inr (.inr q)
    rw [key, ih]
    constructor
    · rintro (⟨j, hj, h⟩ | h)
      · exact ⟨j, by omega, h⟩
      · exact ⟨i, by omega, h⟩
    · rintro ⟨j, hj, h⟩
      by_cases e : j = i
      · subst e; exact .inr h
      · exact .inl ⟨j, by omega, h⟩

theorem below_dN {w0 w : World} (h : Below w0.heap.size w0 w) (n : Nat) : Below w0.heap.size w0 (w.drewN n) := ⟨h.os, h.tape, h.output, h.size, h.block⟩
theorem own_stay {w w' : World} {base : Nat} {e : TypeId} {size : Nat} {v : Value} {n : Nat} {xs : List Value} (h : w.ownsRow base e size v n xs) (k : ∀ g, v.ownBlock = some g → w'.heap[g]? = w.heap[g]?) : w'.ownsRow base e size v n xs := by
  refine ⟨h.1, ?_⟩
  rcases h.2 with q | ⟨g, cap, cur, rfl, q2, q3, q4, q5, q6, q7⟩
  · exact .inl q
  · exact .inr ⟨g, cap, cur, rfl, q2, by rw [k g rfl]; exact q3, q4, q5, q6, q7⟩
/-- A row of slices that the call owns, and what they hold. -/
def OwnR (w : World) (B : Nat) (X : World) (v : Value) (S : List (List Nat)) : Prop :=
  ∃ us : List Value, X.ownsRow B 27 1 v S.length us ∧ us.length = S.length ∧ ∀ (i : Nat) (u : Value) (l : List Nat), us[i]? = some u → S[i]? = some l → NumR w u l
theorem OwnR.stay {w : World} {B : Nat} {X X' : World} {v : Value} {S : List (List Nat)} (h : OwnR w B X v S) (k : ∀ g, v.ownBlock = some g → X'.heap[g]? = X.heap[g]?) : OwnR w B X' v S := by
  obtain ⟨us, h1, h2, h3⟩ := h
  exact ⟨us, own_stay h1 k, h2, h3⟩
theorem OwnR.lt {w : World} {B : Nat} {X : World} {v : Value} {S : List (List Nat)} (h : OwnR w B X v S) {g : Nat} (hg : v.ownBlock = some g) : B ≤ g ∧ g < X.heap.size := by
  obtain ⟨us, h1, _⟩ := h
  exact own_lt h1 hg
theorem OwnR.slice {w : World} {B : Nat} {X : World} {v : Value} {S : List (List Nat)} (h : OwnR w B X v S) : ∃ p c, v = .slice p S.length c := by
  obtain ⟨us, h1, _⟩ := h
  exact own_slice h1
theorem OwnR.rows {w : World} {B : Nat} {X : World} {v : Value} {S : List (List Nat)} (h : OwnR w B X v S) (hb : Below w.heap.size w X) (hl : S.length ≤ 1000) : RowsR X v S := by
  obtain ⟨us, h1, h2, h3⟩ := h
  exact ⟨us, own_vals h1 (by rw [h2]) (by omega), h2, fun i u l hu hl => (h3 i u l hu hl).kept hb⟩
theorem OwnR.one {w : World} {B : Nat} {X : World} {v : Value} {S : List (List Nat)} (h : OwnR w B X v S) : ∀ us, X.ownsRow B 27 1 v S.length us → us.length = S.length := fun us h1 => by
  have := h1.1
  omega

/-- While sets are laid out. -/
structure SeW (w : World) (L : List (List Nat)) (i : Nat) (vS vG vF : Value) (X : World) : Prop where
  b0 : VarAt X w.heap.size [.slice none 0 0, .slice none 0 0, .slice none 0 0] 29
  b1 : VarAt X (w.heap.size + 1) [vS, vG, vF] 29
  oS : OwnR w (w.heap.size + 2) X vS (setS L i)
  oF : OwnR w (w.heap.size + 2) X vF (setF L i)
  sep : ∀ g, vS.ownBlock = some g → vF.ownBlock = some g → False
  oG : NumR w vG (setG0 L i)
  bel : Below w.heap.size w X
  big : w.heap.size + 2 ≤ X.heap.size
theorem SeW.past {w : World} {L : List (List Nat)} {i : Nat} {vS vG vF : Value} {X : World} (h : SeW w L i vS vG vF X) (o : Obj) : SeW w L i vS vG vF (X.alloc o) := by
  have k := (Below.refl X.heap.size X).alloc (Nat.le_refl _) o
  exact ⟨h.b0.kept k, h.b1.kept k, h.oS.stay (fun g hg => k.block g (h.oS.lt hg).2), h.oF.stay (fun g hg => k.block g (h.oF.lt hg).2), h.sep, h.oG, h.bel.trans (k.mono h.bel.size), Nat.le_trans h.big k.size⟩
theorem SeW.glob {w : World} {L : List (List Nat)} {vS vG vF u : Value} {X X' : World} (h : SeW w L 0 vS vG vF X) (hu : NumR w u (L.getD 0 [])) (hv : VarAt X' (w.heap.size + 1) [vS, u, vF] 29) (ht : Turned (w.heap.size + 1) X X') : SeW w L 1 vS u vF X' := by
  refine ⟨ht.var h.b0 (by omega), hv, ?_, ?_, h.sep, by simpa [setG0] using hu, ht.below h.bel (by omega), by rw [ht.size]; exact h.big⟩
  · rw [setS_no (by decide)]
    exact h.oS.stay (fun g hg => ht.block g (by have := (h.oS.lt hg).1; omega))
  · rw [setF_no (by simp)]
    exact h.oF.stay (fun g hg => ht.block g (by have := (h.oF.lt hg).1; omega))
theorem own_more {w : World} {B : Nat} {X' : World} {v' u : Value} {S : List (List Nat)} {l : List Nat} {us : List Value} (h3 : ∀ (i : Nat) (u : Value) (l : List Nat), us[i]? = some u → S[i]? = some l → NumR w u l) (hl : us.length = S.length) (hu : NumR w u l) (o : X'.ownsRow B 27 1 v' (S.length + 1) (us ++ [u])) : OwnR w B X' v' (S ++ [l]) :=
  ⟨us ++ [u], by rw [List.length_append]; exact o, by simp [hl], nums_app hl h3 (nums_one hu)⟩
theorem SeW.slot {w : World} {L : List (List Nat)} {i : Nat} {vS vG vF u v' : Value} {X w5 w6 : World} {us : List Value} (h : SeW w L i vS vG vF X) (hi : i % 2 = 1) (hu : NumR w u (L.getD i []))
    (o : X.ownsRow (w.heap.size + 2) 27 1 vS (setS L i).length us) (h2 : us.length = (setS L i).length) (h3 : ∀ (j : Nat) (u : Value) (l : List Nat), us[j]? = some u → (setS L i)[j]? = some l → NumR w u l)
    (o5 : w5.ownsRow (w.heap.size + 2) 27 1 v' ((setS L i).length + 1) (us ++ [u])) (g5 : X.grownBy w5 vS.ownBlock) (h5 : v'.ownBlock = vS.ownBlock ∨ v'.ownBlock = some X.heap.size)
    (hv : VarAt w6 (w.heap.size + 1) [v', vG, vF] 29) (ht : Turned (w.heap.size + 1) w5 w6) : SeW w L (i + 1) v' vG vF w6 := by
  have tg := grown_touch g5 o
  have ol := fun g (hg : vS.ownBlock = some g) => (own_lt o hg).1
  have big := h.big
  have hg0 : setG0 L (i + 1) = setG0 L i := by unfold setG0; rw [if_neg (by omega), if_neg (by omega)]
  refine ⟨ht.var (h.b0.touch tg (fun q => by have := ol _ q; omega)) (by omega), hv, ?_, ?_, fun g q1 q2 => ?_, by rw [hg0]; exact h.oG, ht.below (below_touch h.bel tg (fun j hj q => by have := ol _ q; omega)) (by omega), ?_⟩
  · rw [setS_yes hi]
    exact (own_more h3 h2 hu o5).stay (fun g hg => ht.block g (by have := (own_lt o5 hg).1; omega))
  · rw [setF_no (by omega)]
    exact h.oF.stay (fun g hg => (ht.block g (by have := (h.oF.lt hg).1; omega)).trans (tg.block g (h.oF.lt hg).2 (fun q => h.sep g q hg)))
  · rcases h5 with e | e
    · exact h.sep g (e ▸ q1) q2
    · rw [e] at q1
      cases q1
      have := (h.oF.lt q2).2
      omega
  · rw [ht.size]; exact Nat.le_trans big tg.size
theorem SeW.field {w : World} {L : List (List Nat)} {i : Nat} {vS vG vF u v' : Value} {X w5 w6 : World} {us : List Value} (h : SeW w L i vS vG vF X) (h0 : i ≠ 0) (hi : i % 2 = 0) (hu : NumR w u (L.getD i []))
    (o : X.ownsRow (w.heap.size + 2) 27 1 vF (setF L i).length us) (h2 : us.length = (setF L i).length) (h3 : ∀ (j : Nat) (u : Value) (l : List Nat), us[j]? = some u → (setF L i)[j]? = some l → NumR w u l)
    (o5 : w5.ownsRow (w.heap.size + 2) 27 1 v' ((setF L i).length + 1) (us ++ [u])) (g5 : X.grownBy w5 vF.ownBlock) (h5 : v'.ownBlock = vF.ownBlock ∨ v'.ownBlock = some X.heap.size)
    (hv : VarAt w6 (w.heap.size + 1) [vS, vG, v'] 29) (ht : Turned (w.heap.size + 1) w5 w6) : SeW w L (i + 1) vS vG v' w6 := by
  have tg := grown_touch g5 o
  have ol := fun g (hg : vF.ownBlock = some g) => (own_lt o hg).1
  have big := h.big
  have hg0 : setG0 L (i + 1) = setG0 L i := by unfold setG0; rw [if_neg (by omega), if_neg h0]
  refine ⟨ht.var (h.b0.touch tg (fun q => by have := ol _ q; omega)) (by omega), hv, ?_, ?_, fun g q1 q2 => ?_, by rw [hg0]; exact h.oG, ht.below (below_touch h.bel tg (fun j hj q => by have := ol _ q; omega)) (by omega), ?_⟩
  · rw [setS_no (by omega)]
    exact h.oS.stay (fun g hg => (ht.block g (by have := (h.oS.lt hg).1; omega)).trans (tg.block g (h.oS.lt hg).2 (fun q => h.sep g hg q)))
  · rw [setF_yes ⟨h0, hi⟩]
    exact (own_more h3 h2 hu o5).stay (fun g hg => ht.block g (by have := (own_lt o5 hg).1; omega))
  · rcases h5 with e | e
    · exact h.sep g q1 (e ▸ q2)
    · rw [e] at q2
      cases q2
      have := (h.oS.lt q1).2
      omega
  · rw [ht.size]; exact Nat.le_trans big tg.size
theorem size22 : (Tryd.prog.info? 22).map (·.size) = some 1 := by kernel_rfl
theorem size29 : (Tryd.prog.info? 29).map (·.size) = some 3 := by kernel_rfl

set_option maxRecDepth 100000 in
set_option maxHeartbeats 1000000 in
theorem sets_any (L : List (List Nat)) (v : Value) (w : World) (hr : RowsR w v L) (hL : L.length ≤ 500) :
    Calls Tryd.prog 9 #[v] w fun e w' => ∃ vS vG vF, e = .returned (.agg #[vS, vG, vF]) ∧ RowsR w' vS (setS L L.length) ∧ NumR w' vG (setG0 L L.length) ∧ RowsR w' vF (setF L L.length) ∧ Below w.heap.size w w' := by
  have BX := below2 w (.cells #[.slice none 0 0, .slice none 0 0, .slice none 0 0] 29) (.cells #[.slice none 0 0, .slice none 0 0, .slice none 0 0] 29)
  have J0 : SeW w L 0 (.slice none 0 0) (.slice none 0 0) (.slice none 0 0) ((w.alloc (.cells #[.slice none 0 0, .slice none 0 0, .slice none 0 0] 29)).alloc (.cells #[.slice none 0 0, .slice none 0 0, .slice none 0 0] 29)) := by
    have h2 := VarAt.new (w.alloc (.cells #[.slice none 0 0, .slice none 0 0, .slice none 0 0] 29)) [.slice none 0 0, .slice none 0 0, .slice none 0 0] 29
    rw [World.size_alloc] at h2
    refine ⟨(VarAt.new w [.slice none 0 0, .slice none 0 0, .slice none 0 0] 29).past _, h2, ⟨[], ⟨rfl, .inl ⟨rfl, rfl⟩⟩, rfl, fun i u l hu => by simp at hu⟩, ⟨[], ⟨rfl, .inl ⟨rfl, rfl⟩⟩, rfl, fun i u l hu => by simp at hu⟩, fun g hg => by simp [Value.ownBlock] at hg, ⟨none, 0, rfl, by simp [setG0], fun i u hu => by simp [setG0] at hu⟩, BX, by simp⟩
  obtain ⟨a, c, rfl, -, hrow⟩ := hr.open
  have HR := hid (fun i (hi : i < L.length) X (h : Below w.heap.size w X) => (show ∃ b off u uc, a = some ⟨b, off, none⟩ ∧ X.cell? ⟨b, off + i, none⟩ = some (.slice u (L.getD i []).length uc) ∧ NumR w (.slice u (L.getD i []).length uc) (L.getD i []) from by
    obtain ⟨b, off, u, h1, h2, h3, h4⟩ := hrow i hi
    obtain ⟨ua, uc, e, _⟩ := NumR.open h4
    subst e
    exact ⟨b, off, ua, uc, h1, by rw [h.cell h2]; exact h3, h4⟩))
  clear hr hrow
  replace J0 := hid J0
  clear BX
  go_enter Tryd.func9, Tryd.ntmps9
  go_wp2_with fail
  generalize (w.alloc (.cells #[.slice none 0 0, .slice none 0 0, .slice none 0 0] 29)).alloc (.cells #[.slice none 0 0, .slice none 0 0, .slice none 0 0] 29) = Z at *
  go_loopw [9] (fun t9 wr => ∃ (i : Nat) (vS vG vF : Value), t9 = .int .i64 (i : Int) ∧ i ≤ L.length ∧ Hid (SeW w L i vS vG vF wr)) (fun t _ => L.length - (intOf t).toNat)
  case atStart => exact ⟨0, _, _, _, rfl, by omega, J0⟩
  case round =>
    clear J0
    obtain ⟨i, vS, vG, vF, rfl, hi, J⟩ := hrel
    by_cases hil : i < L.length
    · obtain ⟨b, off, q, qc, rfl, hc, hn⟩ := HR.out i hil wr J.out.bel
      have hilI : (i : Int) < (L.length : Int) := by omega
      replace hn := hid hn
      clear HR
      by_cases h0 : i = 0
      · have GL : Hid (∀ X : World, VarAt X (w.heap.size + 1) [vS, .slice q (L.getD i []).length qc, vF] 29 → Turned (w.heap.size + 1) wr X → SeW w L (i + 1) vS (.slice q (L.getD i []).length qc) vF X) := hid (by
          subst h0
          exact fun X => J.out.glob hn.out)
        have h0I : (i : Int) = 0 := by omega
        have hc0 : wr.cell? ⟨b, off, none⟩ = some (.slice q (L.getD i []).length qc) := by have := hc; rw [show off + i = off by omega] at this; exact this
        have B1 := hid J.out.b1
        generalize hli : L.getD i [] = li at *
        clear J hli
        go_wp2_with (refine wl_store_cell 27 _ _ rfl rfl (w.heap.size + 1) 1 rfl _ rfl size27 rfl _ _ B1.out (by simp) ?_; intro w6 hv ht)
        go_roundw
        case rel => exact ⟨i + 1, vS, _, vF, by go_num, by omega, hid (GL.out _ hv ht)⟩
        case measure => simp [intOf]; omega
      · have h0I : ¬ ((i : Int) = 0) := by omega
        have P := hid (J.out.past (.cells #[.slice q (L.getD i []).length qc] 27))
        have bg := hid P.out.big
        have R2 := hid (vals_new wr (.slice q (L.getD i []).length qc) 27)
        generalize hli : L.getD i [] = li at *
        replace hn := hid (show NumR w (.slice q li.length qc) (L.getD i []) from by rw [hli]; exact hn.out)
        clear hli
        by_cases h2 : i % 2 = 1
        · have hm : Int.tmod (i : Int) 2 = 1 := by rw [Int.tmod_eq_emod_of_nonneg (by omega)]; omega
          obtain ⟨us, o, m1, m2⟩ := P.out.oS
          have GL := hid (fun v' w5 w6 => P.out.slot (v' := v') (w5 := w5) (w6 := w6) h2 hn.out o m1 m2)
          obtain ⟨p, c', rfl⟩ := own_slice o
          have hlen := setS_len L i
          have B1 := hid P.out.b1
          have OLT := hid (fun g hg => (own_lt (g := g) o hg).1)
          have O := hid o
          have x0 := J.out.b1.cell 0 rfl
          clear J P hn o m2
          generalize hS : (setS L i).length = nS at *
          have hh : nS ≤ 500 := by omega
          clear hS hlen
          go_wp2_with (first
            | (at_builtin; refine wl_appendV rfl _ _ rfl (w.heap.size + 2) (.slice p nS c') rfl nS us O.out _ rfl [.slice q li.length qc] R2.out (by simp [Value.oneCell']) (by simp; omega) bg.out ?_; intro v' w5 o5 g5 h5; have V5 := B1.out.touch (grown_touch g5 O.out) (fun e => by have := OLT.out _ e; omega); obtain ⟨p5, c5, rfl⟩ := own_slice o5; replace o5 := hid o5; replace g5 := hid g5; replace h5 := hid h5)
            | (refine wl_store_cell 22 _ _ rfl rfl (w.heap.size + 1) 0 rfl _ rfl size22 rfl _ _ V5 (by simp) ?_; intro w6 hv ht))
          go_roundw
          case rel => exact ⟨i + 1, _, vG, vF, by go_num, by omega, hid (GL.out _ _ _ o5.out g5.out h5.out hv ht)⟩
          case measure => simp [intOf]; omega
        · have hm : Int.tmod (i : Int) 2 = 0 := by rw [Int.tmod_eq_emod_of_nonneg (by omega)]; omega
          obtain ⟨us, o, m1, m2⟩ := P.out.oF
          have GL := hid (fun v' w5 w6 => P.out.field (v' := v') (w5 := w5) (w6 := w6) h0 (by omega) hn.out o m1 m2)
          obtain ⟨p, c', rfl⟩ := own_slice o
          have hlen := setF_len L i
          have B1 := hid P.out.b1
          have OLT := hid (fun g hg => (own_lt (g := g) o hg).1)
          have O := hid o
          have x0 := J.out.b1.cell 2 rfl
          clear J P hn o m2
          generalize hS : (setF L i).length = nS at *
          have hh : nS ≤ 500 := by omega
          clear hS hlen
          go_wp2_with (first
            | (at_builtin; refine wl_appendV rfl _ _ rfl (w.heap.size + 2) (.slice p nS c') rfl nS us O.out _ rfl [.slice q li.length qc] R2.out (by simp [Value.oneCell']) (by simp; omega) bg.out ?_; intro v' w5 o5 g5 h5; have V5 := B1.out.touch (grown_touch g5 O.out) (fun e => by have := OLT.out _ e; omega); obtain ⟨p5, c5, rfl⟩ := own_slice o5; replace o5 := hid o5; replace g5 := hid g5; replace h5 := hid h5)
            | (refine wl_store_cell 22 _ _ rfl rfl (w.heap.size + 1) 2 rfl _ rfl size22 rfl _ _ V5 (by simp) ?_; intro w6 hv ht))
          go_roundw
          case rel => exact ⟨i + 1, vS, vG, _, by go_num, by omega, hid (GL.out _ _ _ o5.out g5.out h5.out hv ht)⟩
          case measure => simp [intOf]; omega
    · have e : i = L.length := by omega
      subst e
      obtain ⟨pS, cS, rfl⟩ := J.out.oS.slice
      obtain ⟨pF, cF, rfl⟩ := J.out.oF.slice
      obtain ⟨pG, cG, rfl, -, -⟩ := NumR.open J.out.oG
      have x0 := J.out.b1.cell 0 rfl
      have x1 := J.out.b1.cell 1 rfl
      have x2 := J.out.b1.cell 2 rfl
      have B0 := hid J.out.b0
      clear HR
      go_wp2_with (refine wl_store_all 29 _ _ rfl rfl w.heap.size rfl [.slice pS (setS L L.length).length cS, .slice pG (setG0 L L.length).length cG, .slice pF (setF L L.length).length cF] rfl size29 (by simp [Value.oneCell']) _ _ B0.out rfl ?_; intro w6 hv ht)
      refine bodyPost_ret (results_cell_row rfl _ _ w.heap.size _ _ _ _ rfl hv Tryd.underlying29 rfl (by kernel_rfl)) rfl ?_
      have j := J.out
      have kS := j.oS.stay (X' := w6) (fun g hg => ht.block g (by have := (j.oS.lt hg).1; omega))
      have kF := j.oF.stay (X' := w6) (fun g hg => ht.block g (by have := (j.oF.lt hg).1; omega))
      have kb := ht.below j.bel (by omega)
      exact ⟨_, _, _, rfl, kS.rows kb (by have := setS_len L L.length; omega), j.oG.kept kb, kF.rows kb (by have := setF_len L L.length; omega), kb⟩
end Go.Proofs.YtdpbapoahfggeaaDoor
