/- append of rows to rows. -/
import Derived.Test.YtdpbapoahfggeaaDoorSp
namespace Go.Proofs.YtdpbapoahfggeaaDoor
open Go.ChangeShapes Go.WideShapes Go.ChangeAt Go.RowKit Go.Deep
set_option linter.unusedVariables false
set_option linter.unusedSimpArgs false

theorem info27 : (Tryd.prog.info? 27).map (fun i => (i.zero, i.size, i.bytes)) = some (some (.slice none 0 0), 1, 24) := by kernel_rfl
theorem run_append_nil (w : World) (t ty : TypeId) (base : Nat) (e : TypeId) (i : TypeInfo) (size : Nat) (ht : Tryd.prog.underlying t = some (.slice e)) (hi : Tryd.prog.info? e = some i)
    (v : Value) (n c : Nat) (xs : List Value) (hown : w.ownsRow base e size v n xs) : (Builtin.append_ #[t, t] ty #[v, .slice none 0 c]).run Tryd.prog w = .ok v w := by
  rcases hown.2 with ⟨rfl, rfl⟩ | ⟨g, cap, cur, rfl, hbg, hg, hnc, hcm, hcs, htake⟩
  · simp [Builtin.append_, run_underlying ht, sizeOf, typeInfo, hi, Builtin.lenOf, Builtin.firstCells]
  · simp [Builtin.append_, run_underlying ht, sizeOf, typeInfo, hi, Builtin.lenOf, Builtin.firstCells, storeCells, hnc]
theorem run_appendG (w : World) (t ty : TypeId) (base : Nat) (e : TypeId) (z : Value) (bytes : Nat) (ht : Tryd.prog.underlying t = some (.slice e)) (hinf : (Tryd.prog.info? e).map (fun i => (i.zero, i.size, i.bytes)) = some (some z, 1, bytes)) (hzs : z.cells.size = 1) (hby : bytes ≤ 1000)
    (v : Value) (n : Nat) (xs : List Value) (hown : w.ownsRow base e 1 v n xs) (u : Value) (us : List Value) (hu : ValsR w u us) (h1 : ∀ x ∈ us, x.oneCell' = true) (h63 : n + us.length ≤ 2000000) (hbase : base ≤ w.heap.size) :
    ∃ v' w', (Builtin.append_ #[t, t] ty #[v, u]).run Tryd.prog w = .ok v' w' ∧ w'.ownsRow base e 1 v' (n + us.length) (xs ++ us) ∧ w.grownBy w' v.ownBlock ∧ (v'.ownBlock = v.ownBlock ∨ v'.ownBlock = some w.heap.size) := by
  obtain ⟨a, c, rfl, -, hv⟩ := hu
  obtain ⟨i, hi, z0, z1, z2⟩ := info_parts hinf
  have hm : (n + us.length) * bytes ≤ 2000000 * 1000 := Nat.mul_le_mul h63 hby
  by_cases hl : us = []
  · subst hl
    cases a with
    | none => exact ⟨v, w, run_append_nil w t ty base e i 1 ht hi v n c xs hown, by simpa using hown, ⟨rfl, rfl, rfl, Nat.le_refl _, fun _ _ _ => rfl⟩, .inl rfl⟩
    | some p =>
      obtain ⟨v', w', hr, h2, h3, _, h5⟩ := run_append_own_at (P := Tryd.prog) w base t ty e i z 1 bytes ht hi z0 z1 z2 hzs (by decide) v n xs hown p 0 c [] rfl (fun j u hj => by simp at hj) (fun u hu => by cases hu) (by simp only [maxLen]; simp at h63; omega) (by simp at hm ⊢; omega) hbase
      exact ⟨v', w', hr, h2, h3, h5⟩
  · have h0 : us[0]? = some (us[0]'(List.length_pos_iff.2 hl)) := by simp
    obtain ⟨b, off, rfl, _, _⟩ := hv 0 _ h0
    obtain ⟨v', w', hr, h2, h3, _, h5⟩ := run_append_own_at (P := Tryd.prog) w base t ty e i z 1 bytes ht hi z0 z1 z2 hzs (by decide) v n xs hown ⟨b, off, none⟩ us.length c us (by simp) (fun j u hj => by
      obtain ⟨b', off', e, _, h⟩ := hv j u hj
      cases e
      rw [add_plain]
      exact h) h1 (by simp only [maxLen]; omega) (by omega) hbase
    exact ⟨v', w', hr, h2, h3, h5⟩
theorem run_appendV (w : World) (ty : TypeId) (base : Nat) (v : Value) (n : Nat) (xs : List Value) (hown : w.ownsRow base 27 1 v n xs) (u : Value) (us : List Value) (hu : ValsR w u us) (h1 : ∀ x ∈ us, x.oneCell' = true) (h63 : n + us.length ≤ 2000000) (hbase : base ≤ w.heap.size) :
    ∃ v' w', (Builtin.append_ #[22, 22] ty #[v, u]).run Tryd.prog w = .ok v' w' ∧ w'.ownsRow base 27 1 v' (n + us.length) (xs ++ us) ∧ w.grownBy w' v.ownBlock ∧ (v'.ownBlock = v.ownBlock ∨ v'.ownBlock = some w.heap.size) :=
  run_appendG w 22 ty base 27 (.slice none 0 0) 24 Tryd.underlying22 info27 rfl (by decide) v n xs hown u us hu h1 h63 hbase
theorem wl_appendI {w : World} {ops : Array Oper} {rest : List Oper} {o : Oper} {a : Act} {Q : Exit → Act → World → Prop} (hgd : o.guard = none) (s x : Operand)
    (ho : o.op = .call { callee := .builtin .append, args := #[s, x], argTypes := #[25, 25] })
    (base : Nat) (v : Value) (hs : a.eval s = v) (n : Nat) (xs : List Value) (hown : w.ownsRow base 3 1 v n xs) (u : Value) (hx : a.eval x = u) (us : List Value) (hu : ValsR w u us) (h1 : ∀ x ∈ us, x.oneCell' = true) (h63 : n + us.length ≤ 2000000) (hbase : base ≤ w.heap.size)
    (h : ∀ v' w', w'.ownsRow base 3 1 v' (n + us.length) (xs ++ us) → w.grownBy w' v.ownBlock → (v'.ownBlock = v.ownBlock ∨ v'.ownBlock = some w.heap.size) → wpList Tryd.prog ops Q rest (a.put o.dst v') w') : wpList Tryd.prog ops Q (o :: rest) a w :=
  wpList_plain hgd fun K hK => by
    obtain ⟨v', w', hr, h2, h3, h4⟩ := run_appendG w 25 o.type base 3 (.int .i64 0) 8 Tryd.underlying25 info3i rfl (by decide) v n xs hown u us hu h1 h63 hbase
    unfold Oper.wp execOp
    simp only [ho, resolve, invoke, builtin, Sem.run_bind, Sem.run_pure, Result.andThen_ok, List.map_toArray, List.map_cons, List.map_nil, hs, hx, hr]
    exact hK _ _ (h v' w' h2 h3 h4)
theorem vals_new (w : World) (v : Value) (t : TypeId) : ValsR (w.alloc (.cells #[v] t)) (.slice (some ⟨w.heap.size, 0, none⟩) 1 1) [v] :=
  ⟨_, _, rfl, by simp, fun i u hu => by
    cases i with
    | zero => simp at hu; subst hu; exact ⟨_, 0, rfl, by rw [World.size_alloc]; omega, (VarAt.new w [v] t).cell 0 rfl⟩
    | succ i => simp at hu⟩
theorem wp_appendV {w : World} {o : Oper} {a : Act} {K : Act → World → Prop} {Q : Exit → Act → World → Prop} (s x : Operand)
    (ho : o.op = .call { callee := .builtin .append, args := #[s, x], argTypes := #[22, 22] })
    (base : Nat) (v : Value) (hs : a.eval s = v) (n : Nat) (xs : List Value) (hown : w.ownsRow base 27 1 v n xs) (u : Value) (hx : a.eval x = u) (us : List Value) (hu : ValsR w u us) (h1 : ∀ x ∈ us, x.oneCell' = true) (h63 : n + us.length ≤ 2000000) (hbase : base ≤ w.heap.size)
    (h : ∀ v' w', w'.ownsRow base 27 1 v' (n + us.length) (xs ++ us) → w.grownBy w' v.ownBlock → (v'.ownBlock = v.ownBlock ∨ v'.ownBlock = some w.heap.size) → K (a.put o.dst v') w') : o.wp Tryd.prog a w K Q := by
  obtain ⟨v', w', hr, h2, h3, h4⟩ := run_appendV w o.type base v n xs hown u us hu h1 h63 hbase
  unfold Oper.wp execOp
  simp only [ho, resolve, invoke, builtin, Sem.run_bind, Sem.run_pure, Result.andThen_ok, List.map_toArray, List.map_cons, List.map_nil, hs, hx, hr]
  exact h v' w' h2 h3 h4
theorem wl_appendV {w : World} {ops : Array Oper} {rest : List Oper} {o : Oper} {a : Act} {Q : Exit → Act → World → Prop} (hgd : o.guard = none) (s x : Operand)
    (ho : o.op = .call { callee := .builtin .append, args := #[s, x], argTypes := #[22, 22] })
    (base : Nat) (v : Value) (hs : a.eval s = v) (n : Nat) (xs : List Value) (hown : w.ownsRow base 27 1 v n xs) (u : Value) (hx : a.eval x = u) (us : List Value) (hu : ValsR w u us) (h1 : ∀ x ∈ us, x.oneCell' = true) (h63 : n + us.length ≤ 2000000) (hbase : base ≤ w.heap.size)
    (h : ∀ v' w', w'.ownsRow base 27 1 v' (n + us.length) (xs ++ us) → w.grownBy w' v.ownBlock → (v'.ownBlock = v.ownBlock ∨ v'.ownBlock = some w.heap.size) → wpList Tryd.prog ops Q rest (a.put o.dst v') w') : wpList Tryd.prog ops Q (o :: rest) a w :=
  wpList_plain hgd fun _ hK => wp_appendV s x ho base v hs n xs hown u hx us hu h1 h63 hbase fun v' w' h2 h3 h4 => hK _ _ (h v' w' h2 h3 h4)
theorem step_appendV {w : World} {ops : Array Oper} {o : Oper} {a : Act} {K : Act → World → Prop} {Q : Exit → Act → World → Prop} {E : Prop} (hgd : o.guard = none) (s x : Operand)
    (ho : o.op = .call { callee := .builtin .append, args := #[s, x], argTypes := #[22, 22] })
    (base : Nat) (v : Value) (hs : a.eval s = v) (n : Nat) (xs : List Value) (hown : w.ownsRow base 27 1 v n xs) (u : Value) (hx : a.eval x = u) (us : List Value) (hu : ValsR w u us) (h1 : ∀ x ∈ us, x.oneCell' = true) (h63 : n + us.length ≤ 2000000) (hbase : base ≤ w.heap.size)
    (h : ∀ v' w', w'.ownsRow base 27 1 v' (n + us.length) (xs ++ us) → w.grownBy w' v.ownBlock → (v'.ownBlock = v.ownBlock ∨ v'.ownBlock = some w.heap.size) → K (a.put o.dst v') w') :
    if Region.wanted o (yielded ops a.tmps) = true then Oper.wp Tryd.prog o a w K Q else E := by
  have hw : Region.wanted o (yielded ops a.tmps) = true := by simp [Region.wanted, hgd]
  rw [if_pos hw]
  exact wp_appendV s x ho base v hs n xs hown u hx us hu h1 h63 hbase h
theorem own_vals {w : World} {base : Nat} {e : TypeId} {v : Value} {n : Nat} {us : List Value} (h : w.ownsRow base e 1 v n us) (hn : n = us.length) (hl : us.length ≤ 9223372036854775807) : ValsR w v us := by
  obtain ⟨p, c, e⟩ := own_slice h
  subst hn
  refine ⟨p, c, e, hl, fun i u hu => ?_⟩
  rcases h.2 with ⟨e1, e2⟩ | ⟨g, cap, cur, e1, hbg, hg, hnc, hcm, hcs, htake⟩
  · rw [e] at e1
    have : us.length = 0 := by simpa using e2
    have := (List.getElem?_eq_some_iff.1 hu).1
    omega
  · rw [e] at e1
    cases e1
    have := h.cells (g := g) (by rw [e]; rfl) i _ hu
    exact ⟨g, 0, rfl, (Array.getElem?_eq_some_iff.1 hg).1, by rwa [add_plain] at this⟩
/-- A row's values are slices. -/
theorem RowsR.vals {w : World} {v : Value} {L : List (List Nat)} (h : RowsR w v L) : ∃ us : List Value, ValsR w v us ∧ us.length = L.length ∧ (∀ (i : Nat) (u : Value) (l : List Nat), us[i]? = some u → L[i]? = some l → NumR w u l) ∧ ∀ x ∈ us, x.oneCell' = true := by
  obtain ⟨us, h1, h2, h3⟩ := h
  refine ⟨us, h1, h2, h3, fun x hx => ?_⟩
  obtain ⟨i, hi⟩ := List.mem_iff_getElem?.1 hx
  have hlt := (List.getElem?_eq_some_iff.1 hi).1
  obtain ⟨a, c, e⟩ := (h3 i x (L[i]'(by omega)) hi (by simp [show i < L.length by omega])).form
  rw [e]
  rfl
theorem nums_app {w : World} {us us' : List Value} {L L' : List (List Nat)} (hl : us.length = L.length) (h : ∀ (i : Nat) (u : Value) (l : List Nat), us[i]? = some u → L[i]? = some l → NumR w u l) (h' : ∀ (i : Nat) (u : Value) (l : List Nat), us'[i]? = some u → L'[i]? = some l → NumR w u l) :
    ∀ (i : Nat) (u : Value) (l : List Nat), (us ++ us')[i]? = some u → (L ++ L')[i]? = some l → NumR w u l := fun i u l hu hl' => by
  rw [List.getElem?_append] at hu hl'
  by_cases e : i < us.length
  · rw [if_pos e] at hu
    rw [if_pos (by omega)] at hl'
    exact h i u l hu hl'
  · rw [if_neg e] at hu
    rw [if_neg (by omega), ← hl] at hl'
    exact h' _ u l hu hl'
theorem nums_one {w : World} {u : Value} {l : List Nat} (h : NumR w u l) : ∀ (i : Nat) (v : Value) (k : List Nat), [u][i]? = some v → [l][i]? = some k → NumR w v k := fun i v k hv hk => by
  cases i with
  | zero => simp at hv hk; subst hv hk; exact h
  | succ i => simp at hv
end Go.Proofs.YtdpbapoahfggeaaDoor
