/- Rows of items, and of numbers, that grow by append: the walk's laws. -/
import Derived.Test.YtefcpidegnddiaaAlive
import Derived.Laws.AppendOwn
import Derived.Laws.AppendOwnNone
import Derived.OwnWalk
namespace Go.Proofs.Ytefcpidegnddiaa
open Go.ChangeShapes Go.WideShapes Go.ChangeAt Go.RowKit Go.Deep
set_option linter.unusedVariables false

theorem flat_one (l : List Itm) : ∀ u ∈ flat l, u.oneCell' = true := by
  induction l with
  | nil => intro u hu; simp [flat] at hu
  | cons x l ih =>
    intro u hu
    simp only [flat, List.mem_cons] at hu
    rcases hu with rfl | rfl | rfl | hu
    · rfl
    · rfl
    · rfl
    · exact ih u hu

theorem items_cell {w : World} {b off : Nat} {l : List Itm} (h : ItemsAt w (some ⟨b, off, none⟩) l) (j : Nat) (u : Value) (hj : (flat l)[j]? = some u) : w.cell? ⟨b, off + j, none⟩ = some u := by
  have hlt : j < (flat l).length := by
    by_cases k : j < (flat l).length
    · exact k
    · rw [List.getElem?_eq_none (by omega)] at hj; cases hj
  rw [flat_len] at hlt
  have hi : j / 3 < l.length := by omega
  obtain ⟨g0, g1, g2⟩ := flat_get l (j / 3) hi
  obtain ⟨b', off', e, _, ⟨c0, c1, c2⟩, _⟩ := h (j / 3) hi
  simp only [Option.some.injEq, Addr.mk.injEq, and_true] at e
  obtain ⟨rfl, rfl⟩ := e
  have hm : j % 3 = 0 ∨ j % 3 = 1 ∨ j % 3 = 2 := by omega
  rcases hm with hm | hm | hm
  · have e1 : j / 3 * 3 = j := by omega
    rw [e1] at g0 c0
    rw [g0] at hj; cases hj; exact c0
  · have e1 : j / 3 * 3 + 1 = j := by omega
    have e2 : off + j / 3 * 3 + 1 = off + j := by omega
    rw [e1] at g1
    rw [e2] at c1
    rw [g1] at hj; cases hj; exact c1
  · have e1 : j / 3 * 3 + 2 = j := by omega
    have e2 : off + j / 3 * 3 + 2 = off + j := by omega
    rw [e1] at g2
    rw [e2] at c2
    rw [g2] at hj; cases hj; exact c2

theorem ItemsAt.allOk {w : World} {a : Option Addr} {l : List Itm} (h : ItemsAt w a l) : AllOk l := by
  intro x hx
  obtain ⟨i, hi, rfl⟩ := List.getElem_of_mem hx
  obtain ⟨_, _, _, _, _, ok⟩ := h i hi
  have : l.getD i Itm.blank = l[i] := by simp [List.getD, hi]
  rwa [this] at ok

/-- A row of items that this call owns. -/
def IRow (base : Nat) (w : World) (v : Value) (n : Nat) (l : List Itm) : Prop := n = l.length ∧ w.ownsRow base 36 3 v n (flat l) ∧ AllOk l

theorem IRow.base {base : Nat} {w : World} {v : Value} {n : Nat} {l : List Itm} (h : IRow base w v n l) : ∀ k, v.ownBlock = some k → base ≤ k := by
  intro k hk
  rcases h.2.1.2 with ⟨rfl, _⟩ | ⟨g, cap, cur, rfl, hb, _⟩
  · simp [Value.ownBlock] at hk
  · simp [Value.ownBlock] at hk; omega

theorem IRow.at {base : Nat} {w : World} {p : Option Addr} {n c : Nat} {l : List Itm} (h : IRow base w (.slice p n c) n l) : ItemsAt w p l := by
  obtain ⟨hn, ho, ok⟩ := h
  rcases ho.2 with ⟨e, rfl⟩ | ⟨g, cap, cur, e, hb, hg, hle, _, hcs, ht⟩
  · have : l = [] := by cases l with
      | nil => rfl
      | cons x l => simp at hn
    subst this
    exact ItemsAt.nil _ _
  · simp only [Value.slice.injEq, true_and] at e
    obtain ⟨rfl, _⟩ := e
    have hlt : g < w.heap.size := by
      by_cases k : g < w.heap.size
      · exact k
      · rw [Array.getElem?_eq_none (by omega)] at hg; cases hg
    refine items_of hlt ?_ ok
    intro j u hj
    have := ho.cells (g := g) rfl j u hj
    rwa [add_plain, Nat.zero_add] at this

theorem info36 : (Try.prog.info? 36).map (fun i => (i.zero, i.size, i.bytes)) = some (some (.agg #[.int .i64 0, .int .i64 0, .int .u64 0]), 3, 24) := by kernel_rfl

theorem IRow.new1 (base : Nat) (w : World) (x : Itm) (ok : x.ok) (hb : base ≤ w.heap.size) : IRow base (w.alloc (.cells #[.int .i64 x.op, .int .i64 x.bin, .int .u64 x.n] 36)) (.slice (some ⟨w.heap.size, 0, none⟩) 1 1) 1 [x] :=
  ⟨rfl, ⟨rfl, .inr ⟨w.heap.size, 1, _, rfl, hb, new_block _ _, by omega, by simp [maxLen], rfl, rfl⟩⟩, fun y hy => by simp at hy; subst hy; exact ok⟩

theorem IRow.new0 (base : Nat) (w : World) (hb : base ≤ w.heap.size) : IRow base (w.alloc (.cells #[] 36)) (.slice (some ⟨w.heap.size, 0, none⟩) 0 0) 0 [] :=
  ⟨rfl, ⟨rfl, .inr ⟨w.heap.size, 0, _, rfl, hb, new_block _ _, by omega, by simp [maxLen], rfl, rfl⟩⟩, fun y hy => by simp at hy⟩

theorem IRow.kept {base : Nat} {w w' : World} {v : Value} {n : Nat} {l : List Itm} (h : IRow base w v n l) (hb : Below w.heap.size w w') : IRow base w' v n l := by
  obtain ⟨hn, ho, ok⟩ := h
  refine ⟨hn, ⟨ho.1, ?_⟩, ok⟩
  rcases ho.2 with e | ⟨g, cap, cur, e, hb1, hg, r⟩
  · exact .inl e
  · have hlt : g < w.heap.size := by
      by_cases k : g < w.heap.size
      · exact k
      · rw [Array.getElem?_eq_none (by omega)] at hg; cases hg
    exact .inr ⟨g, cap, cur, e, hb1, by rw [hb.block g hlt]; exact hg, r⟩

theorem own_slice {w : World} {base : Nat} {e : TypeId} {size : Nat} {v : Value} {n : Nat} {xs : List Value} (h : w.ownsRow base e size v n xs) : ∃ p c, v = .slice p n c := by
  rcases h.2 with ⟨rfl, rfl⟩ | ⟨g, cap, cur, rfl, _⟩
  · exact ⟨none, 0, rfl⟩
  · exact ⟨_, _, rfl⟩

section
variable {ops : Array Oper} {rest : List Oper} {o : Oper} {a : Act} {w : World} {Q : Exit → Act → World → Prop}
/-- append(l, m...), items. -/
theorem wl_appI (hgd : o.guard = none) (s x : Operand) (ho : o.op = .call { callee := .builtin .append, args := #[s, x], argTypes := #[22, 22] })
    (base : Nat) (v : Value) (hs : a.eval s = v) (n : Nat) (l : List Itm) (hv : IRow base w v n l) (b off m c : Nat) (hx : a.eval x = .slice (some ⟨b, off, none⟩) m c) (news : List Itm) (hm : m = news.length) (hn : ItemsAt w (some ⟨b, off, none⟩) news)
    (hb : base ≤ w.heap.size) (hsm : n + m ≤ 1000000)
    (h : ∀ p c' w' n', Hid (n' = n + m) → Hid (IRow base w' (.slice p n' c') n' (l ++ news)) → Hid (Below base w w') → Hid (w.grownBy w' v.ownBlock) → wpList Try.prog ops Q rest (a.put o.dst (.slice p n' c')) w') : wpList Try.prog ops Q (o :: rest) a w := by
  obtain ⟨i, hi, z0, z1, z2⟩ := info_parts info36
  refine wpList_append_own (P := Try.prog) w hgd s x 22 ho base 36 i _ 3 24 Try.underlying22 hi z0 z1 z2 rfl (by omega) v n (flat l) hs hv.2.1 ⟨b, off, none⟩ m c (flat news) hx (by rw [flat_len, hm]) (fun j u hj => by rw [add_plain]; exact items_cell hn j u hj) (flat_one news) (by simp [maxLen]; omega) (by omega) hb ?_
  intro v' w' h2 h3 h4
  obtain ⟨p, c', rfl⟩ := own_slice h2
  refine h p c' w' _ (hid rfl) (hid ⟨?_, ?_, ?_⟩) (hid ?_) (hid h3)
  · rw [List.length_append, ← hv.1, hm]
  · rw [flat_app]; exact h2
  · intro y hy
    rcases List.mem_append.1 hy with hy | hy
    · exact hv.2.2 y hy
    · exact hn.allOk y hy
  · exact (Below.refl base w).grown h3 hb (hv.base)
end
end Go.Proofs.Ytefcpidegnddiaa
