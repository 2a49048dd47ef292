/- For CodeMost: a single cell put anew in a block; a row of threads with another Most. -/
import Derived.Test.YtjjfhjelkioehaaApp
import Derived.Test.YtjjfhjelkioehaaPlainM
namespace Go.Proofs.Ytjjfhjelkioehaa
open Go.ChangeShapes Go.WideShapes Go.ChangeAt Go.RowKit Go.Deep
set_option linter.unusedVariables false

theorem VarAt.there {w : World} {b : Nat} {cs : List Value} {t : TypeId} (h : VarAt w b cs t) (o n : Nat) (hn : o + n ≤ cs.length) : w.there b o n := fun j hj => by
  refine ⟨?_, h.frozen _⟩
  rw [h.box.2 (o + j) _ (List.getElem?_eq_getElem (by omega))]
  rfl

/-- A single value goes into a part of a variable. -/
theorem wl_store_cell {ops : Array Oper} {rest : List Oper} {op : Oper} {a : Act} {w : World} {Q : Exit → Act → World → Prop} (ty : TypeId) (x y : Operand) (ho : op.op = .store ty x y) (hw : Region.wanted op (yielded ops a.tmps) = true)
    (b o : Nat) (hx : a.eval x = .pointer (some ⟨b, o, none⟩)) (u : Value) (hy : a.eval y = u) (hT : (Try.prog.info? ty).map (·.size) = some 1) (h1 : u.oneCell' = true)
    (cs : List Value) (t : TypeId) (hv : VarAt w b cs t) (hl : o < cs.length)
    (h : ∀ w', VarAt w' b (cs.set o u) t → Turned b w w' → wpList Try.prog ops Q rest (a.put op.dst undef) w') : wpList Try.prog ops Q (op :: rest) a w := by
  have hc : u.cells = #[u] := by cases u <;> first | rfl | simp [Value.oneCell'] at h1
  have hr : (storeVar ty ⟨b, o, none⟩ u).run Try.prog w = .ok () (w.setCell ⟨b, o, none⟩ u) := by
    have hs := run_storeCells_cells (P := Try.prog) b o [u] 0 w (fun j hj => by simpa using (hv.there o 1 (by omega) j (by simpa using hj)).1) (fun j hj => by simpa using (hv.there o 1 (by omega) j (by simpa using hj)).2) (fun v hv => by simp at hv; subst hv; exact h1)
    cases hq : Try.prog.info? ty with
    | none => simp [hq] at hT
    | some i =>
      have e : i.size = 1 := by simpa [hq] using hT
      simp only [Nat.add_zero] at hs
      simp [storeVar, sizeOf, typeInfo, hq, hc, e]
      simpa [World.setCells] using hs
  refine wpList_step fun K hK => ?_
  rw [if_pos hw]
  unfold Oper.wp execOp
  simp only [ho, hx, hy, Instr.storeAt, Instr.sureAddr, Sem.run_bind, Sem.run_pure, Result.andThen_ok, hr]
  exact hK _ _ (h _ (hv.set o u) (Turned.sets b [u] o w))


theorem bd_ones {w : World} {v : Value} {l : List Bd} (h : Bds w v l) : ∀ x ∈ l.flatMap Bd.cells, x.oneCell' = true := by
  intro x hx
  obtain ⟨t, ht, hx⟩ := List.mem_flatMap.1 hx
  obtain ⟨i, hi, rfl⟩ := List.getElem_of_mem ht
  obtain ⟨a, cap, e, hr⟩ := h.at
  obtain ⟨y, b, off, hy, _, _, _, ok⟩ := hr i hi
  have e2 : l[i]? = some l[i] := by simp [hi]
  rw [e2] at hy; cases hy
  obtain ⟨a1, p1, e1⟩ := ok.2.1.form
  obtain ⟨a2, p2, e2⟩ := ok.2.2.form
  simp only [Bd.cells, List.mem_cons, List.not_mem_nil, or_false] at hx
  rcases hx with rfl | rfl | rfl
  · rw [e1]; rfl
  · rw [e2]; rfl
  · rfl

theorem most_get2 {c : Cd} {k : Nat} {most : Int} {v : Value} {i : Nat} {x : Bd} (h : (withMost c k most v).threads[i]? = some x) :
    ∃ t, c.threads[i]? = some t ∧ ((i ≠ k ∧ x = t) ∨ (i = k ∧ x = { t with most := most })) := by
  unfold withMost at h
  simp only [List.getElem?_set] at h
  split at h
  · rename_i e
    subst e
    split at h
    · rename_i hl
      have e1 : c.threads.getD k Bd.z = c.threads[k] := by simp [List.getD, hl]
      rw [e1] at h
      cases h
      exact ⟨c.threads[k], by simp [hl], .inr ⟨rfl, rfl⟩⟩
    · cases h
  · rename_i e
    exact ⟨x, h, .inl ⟨fun q => e q.symm, rfl⟩⟩

/-- The new row, its Most put anew at one place, is the row of the threads with that Most. -/
theorem row_most {w : World} {c : Cd} {k : Nat} {t : Bd} {most : Int} {g cap : Nat} {cur : List Value} (hk : c.threads[k]? = some t) (hm : I64 most) (hcap : c.threads.length ≤ cap) (hcm : cap ≤ maxLen)
    (hv : VarAt w g (cur.set (k * 3 + 2) (.int .i64 most)) 39) (htk : cur.take (c.threads.length * 3) = c.threads.flatMap Bd.cells) (hok : ∀ (i : Nat) (t : Bd), c.threads[i]? = some t → t.okW w) (v : Value) :
    Bds w (.slice (some ⟨g, 0, none⟩) c.threads.length cap) (withMost c k most v).threads := by
  have hlen : (withMost c k most v).threads.length = c.threads.length := by unfold withMost; simp
  refine ⟨some ⟨g, 0, none⟩, cap, by rw [hlen], by rw [hlen]; exact hcap, hcm, (fun p hp _ => by cases hp; rfl), (fun e => by cases e), fun i x hx => ?_⟩
  obtain ⟨t2, h1, h2⟩ := most_get2 hx
  have hi := (List.getElem?_eq_some_iff.1 h1).1
  have cell : ∀ j u, (Bd.cells t2)[j]? = some u → cur[i * 3 + j]? = some u := fun j u hu => by
    have := flat_get Bd.cells 3 (fun _ => rfl) c.threads i t2 h1 j u hu
    rw [← htk, List.getElem?_take] at this
    split at this
    · exact this
    · cases this
  have ok2 := hok i t2 h1
  have lenc : ∀ j, j < 3 → i * 3 + j < cur.length := fun j hj => by
    have hx2 : (Bd.cells t2)[j]? = some ((Bd.cells t2)[j]'(by simpa [Bd.cells] using hj)) := by simp
    exact (List.getElem?_eq_some_iff.1 (cell j _ hx2)).1
  refine ⟨g, 0, rfl, hv.lt, fun j u hu => ?_, ?_⟩
  · rw [Nat.zero_add]
    refine hv.box.2 _ _ ?_
    have hj3 : j < 3 := by have := (List.getElem?_eq_some_iff.1 hu).1; simpa [Bd.cells] using this
    rw [List.getElem?_set]
    rcases h2 with ⟨hne, rfl⟩ | ⟨rfl, rfl⟩
    · rw [if_neg (by omega)]
      exact cell j u hu
    · by_cases hj : j = 2
      · subst hj
        rw [if_pos rfl, if_pos (lenc 2 (by omega))]
        simpa [Bd.cells] using hu
      · rw [if_neg (by omega)]
        refine cell j u ?_
        have : j = 0 ∨ j = 1 := by omega
        rcases this with rfl | rfl <;> simpa [Bd.cells] using hu
  · rcases h2 with ⟨hne, rfl⟩ | ⟨rfl, rfl⟩
    · exact ok2
    · exact ⟨hm, ok2.2.1, ok2.2.2⟩
end Go.Proofs.Ytjjfhjelkioehaa
