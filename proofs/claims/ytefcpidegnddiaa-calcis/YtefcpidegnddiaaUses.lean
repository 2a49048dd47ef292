/- Rows of numbers that grow by append; the contract of calc's Uses. -/
import Derived.Test.YtefcpidegnddiaaRowz
namespace Go.Proofs.Ytefcpidegnddiaa
open Go.ChangeShapes Go.WideShapes Go.ChangeAt Go.RowKit Go.Deep
set_option linter.unusedVariables false

/-- A row of numbers that this call owns. -/
def NRow (k : IntKind) (e : TypeId) (base : Nat) (w : World) (v : Value) (n : Nat) (l : List Int) : Prop := n = l.length ∧ w.ownsRow base e 1 v n (l.map (Value.int k)) ∧ ∀ x ∈ l, (Lit.int k x).wf = true

theorem NRow.base {k : IntKind} {e : TypeId} {base : Nat} {w : World} {v : Value} {n : Nat} {l : List Int} (h : NRow k e base w v n l) : ∀ j, v.ownBlock = some j → base ≤ j := by
  intro j hj
  rcases h.2.1.2 with ⟨rfl, _⟩ | ⟨g, cap, cur, rfl, hb, _⟩
  · simp [Value.ownBlock] at hj
  · simp [Value.ownBlock] at hj; omega

theorem nums_of {k : IntKind} {w : World} {b : Nat} {l : List Int} (hb : b < w.heap.size) (h : ∀ j u, (l.map (Value.int k))[j]? = some u → w.cell? ⟨b, j, none⟩ = some u) (ok : ∀ x ∈ l, (Lit.int k x).wf = true) : NumsAt k w (some ⟨b, 0, none⟩) l := by
  intro i hi
  refine ⟨b, 0, rfl, hb, ?_, ok _ (getD_mem _ _ _ hi)⟩
  rw [Nat.zero_add]
  refine h i _ ?_
  rw [List.getElem?_map]
  simp [List.getD, hi]

theorem NRow.at {k : IntKind} {e : TypeId} {base : Nat} {w : World} {p : Option Addr} {n c : Nat} {l : List Int} (h : NRow k e base w (.slice p n c) n l) : NumsAt k w p l := by
  obtain ⟨hn, ho, ok⟩ := h
  rcases ho.2 with ⟨e, rfl⟩ | ⟨g, cap, cur, e, hb, hg, hle, _, hcs, ht⟩
  · have : l = [] := by cases l with
      | nil => rfl
      | cons x l => simp at hn
    subst this
    exact NumsAt.nil _ _ _
  · simp only [Value.slice.injEq, true_and] at e
    obtain ⟨rfl, _⟩ := e
    have hlt : g < w.heap.size := by
      by_cases k : g < w.heap.size
      · exact k
      · rw [Array.getElem?_eq_none (by omega)] at hg; cases hg
    refine nums_of hlt ?_ ok
    intro j u hj
    have := ho.cells (g := g) rfl j u hj
    rwa [add_plain, Nat.zero_add] at this

theorem NRow.nil (k : IntKind) (e : TypeId) (base : Nat) (w : World) : NRow k e base w (.slice none 0 0) 0 [] :=
  ⟨rfl, ⟨rfl, .inl ⟨rfl, rfl⟩⟩, fun y hy => by simp at hy⟩
theorem NRow.new0 (k : IntKind) (e : TypeId) (base : Nat) (w : World) (hb : base ≤ w.heap.size) : NRow k e base (w.alloc (.cells #[] e)) (.slice (some ⟨w.heap.size, 0, none⟩) 0 0) 0 [] :=
  ⟨rfl, ⟨rfl, .inr ⟨w.heap.size, 0, _, rfl, hb, new_block _ _, by omega, by simp [maxLen], rfl, rfl⟩⟩, fun y hy => by simp at hy⟩

theorem NRow.kept {k : IntKind} {e : TypeId} {base : Nat} {w w' : World} {v : Value} {n : Nat} {l : List Int} (h : NRow k e base w v n l) (hb : Below w.heap.size w w') : NRow k e base w' v n l := by
  obtain ⟨hn, ho, ok⟩ := h
  refine ⟨hn, ⟨ho.1, ?_⟩, ok⟩
  rcases ho.2 with e | ⟨g, cap, cur, e, hb1, hg, r⟩
  · exact .inl e
  · have hlt : g < w.heap.size := by
      by_cases k : g < w.heap.size
      · exact k
      · rw [Array.getElem?_eq_none (by omega)] at hg; cases hg
    exact .inr ⟨g, cap, cur, e, hb1, by rw [hb.block g hlt]; exact hg, r⟩

theorem nums_cell {k : IntKind} {w : World} {b off : Nat} {l : List Int} (h : NumsAt k w (some ⟨b, off, none⟩) l) (j : Nat) (u : Value) (hj : (l.map (Value.int k))[j]? = some u) : w.cell? ⟨b, off + j, none⟩ = some u := by
  have hlt : j < l.length := by
    by_cases q : j < l.length
    · exact q
    · rw [List.getElem?_eq_none (by rw [List.length_map]; omega)] at hj; cases hj
  obtain ⟨b', off', e, _, c, _⟩ := h j hlt
  simp only [Option.some.injEq, Addr.mk.injEq, and_true] at e
  obtain ⟨rfl, rfl⟩ := e
  rw [c]
  rw [List.getElem?_map] at hj
  have : l.getD j 0 = l[j] := by simp [List.getD, hlt]
  rw [this]
  simpa [hlt] using hj

theorem NumsAt.wf {k : IntKind} {w : World} {a : Option Addr} {l : List Int} (h : NumsAt k w a l) : ∀ x ∈ l, (Lit.int k x).wf = true := by
  intro x hx
  obtain ⟨i, hi, rfl⟩ := List.getElem_of_mem hx
  obtain ⟨_, _, _, _, _, ok⟩ := h i hi
  have : l.getD i 0 = l[i] := by simp [List.getD, hi]
  rwa [this] at ok

theorem info3 : (Try.prog.info? 3).map (fun i => (i.zero, i.size, i.bytes)) = some (some (.int .i64 0), 1, 8) := by kernel_rfl

section
variable {ops : Array Oper} {rest : List Oper} {o : Oper} {a : Act} {w : World} {Q : Exit → Act → World → Prop}
/-- append(l, m...), numbers. -/
theorem wl_appN (k : IntKind) (t e : TypeId) (ht : Try.prog.underlying t = some (.slice e)) (hi : (Try.prog.info? e).map (fun i => (i.zero, i.size, i.bytes)) = some (some (.int k 0), 1, 8)) (hgd : o.guard = none) (s x : Operand) (ho : o.op = .call { callee := .builtin .append, args := #[s, x], argTypes := #[t, t] })
    (base : Nat) (v : Value) (hs : a.eval s = v) (n : Nat) (l : List Int) (hv : NRow k e base w v n l) (b off m c : Nat) (hx : a.eval x = .slice (some ⟨b, off, none⟩) m c) (news : List Int) (hm : m = news.length) (hn : NumsAt k w (some ⟨b, off, none⟩) news)
    (hb : base ≤ w.heap.size) (hsm : n + m ≤ 1000000)
    (h : ∀ p c' w' n', Hid (n' = n + m) → Hid (NRow k e base w' (.slice p n' c') n' (l ++ news)) → Hid (Below base w w') → Hid (w.grownBy w' v.ownBlock) → wpList Try.prog ops Q rest (a.put o.dst (.slice p n' c')) w') : wpList Try.prog ops Q (o :: rest) a w := by
  obtain ⟨i, hi, z0, z1, z2⟩ := info_parts hi
  refine wpList_append_own (P := Try.prog) w hgd s x t ho base e i _ 1 8 ht hi z0 z1 z2 rfl (by omega) v n (l.map (Value.int k)) hs hv.2.1 ⟨b, off, none⟩ m c (news.map (Value.int k)) hx (by rw [List.length_map, hm, Nat.mul_one]) (fun j u hj => by rw [add_plain]; exact nums_cell hn j u hj) (by intro u hu; simp at hu; obtain ⟨y, _, rfl⟩ := hu; rfl) (by simp [maxLen]; omega) (by omega) hb ?_
  intro v' w' h2 h3 h4
  obtain ⟨p, c', rfl⟩ := own_slice h2
  refine h p c' w' _ (hid rfl) (hid ⟨?_, ?_, ?_⟩) (hid ?_) (hid h3)
  · rw [List.length_append, ← hv.1, hm]
  · rw [List.map_append]; exact h2
  · intro y hy
    rcases List.mem_append.1 hy with hy | hy
    · exact hv.2.2 y hy
    · exact hn.wf y hy
  · exact (Below.refl base w).grown h3 hb (hv.base)
end

/-- The slots that items name. -/
def usesL : List Itm → List Int
  | [] => []
  | x :: l => if x.op == 2 then wrap64 x.n :: usesL l else usesL l

theorem usesL_len (l : List Itm) : (usesL l).length ≤ l.length := by
  induction l with
  | nil => exact Nat.le_refl _
  | cons x l ih =>
    unfold usesL
    split
    · simp; omega
    · simp; omega

theorem wrap_wf (x : Int) : (Lit.int .i64 (wrap64 x)).wf = true := by
  have h1 : IntKind.i64.min = -9223372036854775808 := by decide
  have h2 : IntKind.i64.max = 9223372036854775807 := by decide
  simp only [Lit.wf, h1, h2, wrap64, Bool.and_eq_true, decide_eq_true_eq]
  omega

set_option maxRecDepth 100000 in
set_option maxHeartbeats 1000000 in
theorem uses_any (a : Option Addr) (n cap : Nat) (xs : List Itm) (w : World) (hn : n = xs.length) (hx : ItemsAt w a xs) (hl : n ≤ 100000) :
    Calls Try.prog 13 #[.slice a n cap] w fun e w' => ∃ p m c, e = .returned (.slice p m c) ∧ m = (usesL xs).length ∧ NRow .i64 3 w.heap.size w' (.slice p m c) m (usesL xs) ∧ Below w.heap.size w w' := by
  have HN := hid hn
  have HX := hid hx
  clear hn hx
  go_enter Try.func13, Try.ntmps13
  go_wp2_with fail
  go_loopw [3, 8] (fun t3 t wr => ∃ (j m c : Nat) (p : Option Addr) (l : List Int), t = .int .i64 j ∧ j ≤ n ∧ t3 = .slice p m c ∧ m ≤ j ∧ Hid (l ++ usesL (xs.drop j) = usesL xs) ∧ Hid (NRow .i64 3 w.heap.size wr (.slice p m c) m l) ∧ Hid (Below w.heap.size w wr)) (fun _ t _ => n - (intOf t).toNat)
  case atStart => exact ⟨0, 0, 0, none, [], rfl, by omega, rfl, by omega, rfl, NRow.nil _ _ _ _, Below.refl _ _⟩
  case round =>
    obtain ⟨j, m, c, p, l, rfl, hj, rfl, hm, E, R, B⟩ := hrel
    by_cases hjn : j < n
    · obtain ⟨b, off, rfl, hb, ⟨c0, c1, c2⟩, ok⟩ := HX.out j (by rw [← HN.out]; exact hjn)
      rw [← B.out.cell hb] at c0 c1 c2
      have D := hid (drop_here Itm.blank xs j (by rw [← HN.out]; exact hjn))
      rw [D.out] at E
      generalize xs.getD j Itm.blank = x at *
      have hk := (Below.refl wr.heap.size wr).alloc (Nat.le_refl _) (.cells #[.int .i64 x.op, .int .i64 x.bin, .int .u64 x.n] 36)
      have B1 := hid (B.out.alloc B.out.size (.cells #[.int .i64 x.op, .int .i64 x.bin, .int .u64 x.n] 36))
      have R1 := hid (R.out.kept hk)
      clear D HX ok
      cases ho : (x.op == 2)
      · have E2 : Hid (l ++ usesL (xs.drop (j + 1)) = usesL xs) := hid (by rw [← E.out]; show _ = l ++ (if _ then _ else _); rw [ho]; rfl)
        clear E R B hk
        go_wp2
        go_roundw
        case rel => exact ⟨j + 1, m, c, p, l, by go_num, by omega, rfl, by omega, E2, R1, B1⟩
        case measure => simp [intOf]; omega
      · have E2 : Hid ((l ++ [wrap64 x.n]) ++ usesL (xs.drop (j + 1)) = usesL xs) := hid (by rw [← E.out, List.append_assoc]; show _ = l ++ (if _ then _ else _); rw [ho]; rfl)
        have wfv := hid (wrap_wf x.n)
        have hk2 := hk.alloc hk.size (.cells #[.int .i64 (wrap64 x.n)] 3)
        have B2 := hid (B1.out.alloc B1.out.size (.cells #[.int .i64 (wrap64 x.n)] 3))
        have R2 := hid (R1.out.kept ((Below.refl _ _).alloc (Nat.le_refl _) (.cells #[.int .i64 (wrap64 x.n)] 3)))
        have N2 : Hid (NumsAt .i64 ((wr.alloc (.cells #[.int .i64 x.op, .int .i64 x.bin, .int .u64 x.n] 36)).alloc (.cells #[.int .i64 (wrap64 x.n)] 3)) (some ⟨wr.heap.size + 1, 0, none⟩) [wrap64 x.n]) := hid (by
          have e1 : (wr.alloc (.cells #[.int .i64 x.op, .int .i64 x.bin, .int .u64 x.n] 36)).heap.size = wr.heap.size + 1 := by simp
          rw [← e1]
          intro i hi
          have : i = 0 := by simpa using hi
          subst this
          exact ⟨_, 0, rfl, by simp, new_cell _ _ _ _ _ rfl, wfv.out⟩)
        clear E R B hk hk2 R1
        go_wp2_with (first
          | (at_builtin; refine wl_appN .i64 24 3 Try.underlying24 info3 rfl _ _ rfl w.heap.size (.slice p m c) rfl m l R2.out (wr.heap.size + 1) 0 1 1 rfl [wrap64 x.n] rfl N2.out B2.out.size (by omega) ?_; intro p2 c2' w5 n5 hn5 R5 B5 G5))
        go_roundw
        case rel => exact ⟨j + 1, n5, c2', p2, l ++ [wrap64 x.n], by go_num, by omega, rfl, by rw [hn5.out]; omega, E2, R5, hid (B2.out.trans B5.out)⟩
        case measure => simp [intOf]; omega
    · have e : l = usesL xs := by
        have := E.out
        rw [List.drop_of_length_le (by rw [← HN.out]; omega)] at this
        simpa [usesL] using this
      subst e
      clear E HX
      go_wp2
      go_ret
      exact ⟨p, m, c, rfl, R.out.1, R.out, B.out⟩
end Go.Proofs.Ytefcpidegnddiaa
