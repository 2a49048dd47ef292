/- Contract of calc's Eval, over the landed code. -/
import Derived.Test.YtefcpidegnddiaaGoods
import Derived.Test.YtefcpidegnddiaaStk
namespace Go.Proofs.Ytefcpidegnddiaa
open Go.ChangeShapes Go.WideShapes Go.ChangeAt Go.RowKit
set_option linter.unusedVariables false

theorem hgt_can {s : Int} {x : Itm} {l : List Itm} {h k : Nat} (e : hgt s (x :: l) h = some k) : can s x = true ∧ tk x.op ≤ h ∧ hgt s l (h - tk x.op + 1) = some k := by
  unfold hgt at e
  split at e
  · rename_i c; exact ⟨c.1, c.2, e⟩
  · cases e

theorem can_slot {s : Nat} {x : Itm} (hx : x.ok) (h : can s x = true) : SlotIn s x := by
  intro h2
  obtain ⟨op, bin, n⟩ := x
  simp only at h2
  subst h2
  simp [can] at h
  obtain ⟨_, _, _, _, n0, _⟩ := hx
  simp only at n0 ⊢
  omega

theorem good_hgt {s : Int} {l : List Itm} (h : goodB s l = true) : hgt s l 0 = some 1 ∧ l.length ≤ 64 := by
  unfold goodB at h
  simp at h
  exact ⟨h.2, h.1⟩

theorem evN_bad {sl ins : List Int} {l : List Itm} (h : goodB sl.length l = false) : evN sl ins l = 0 ∧ evT sl ins l = 0 := by
  unfold evN evT
  rw [h]; exact ⟨rfl, rfl⟩

/-- All are rows of 64 bits. -/
def AllU (l : List Int) : Prop := ∀ v ∈ l, U v

theorem u_real (bin a b : Int) : U (realI bin a b) := by
  unfold realI realO tidyN U
  have hb : ∀ {op : BinOp} {x y r : Nat}, floatBits op .f64 x y = some r → r < 18446744073709551616 := fun h => bits_lt h
  repeat' split
  all_goals first | omega | (rename_i h hn; have := hb h; omega)

theorem u_reck (sl ins : List Int) (hsl : AllU sl) (x : Itm) (hx : x.ok) (ts : List Int) (h : AllU ts) : U (reckN sl ins x ts) := by
  unfold reckN
  split
  · unfold fetchV
    split
    · by_cases k : x.n.toNat < sl.length
      · have : sl.getD x.n.toNat 0 = sl[x.n.toNat] := by simp [List.getD, k]
        rw [this]; exact hsl _ (List.getElem_mem k)
      · have : sl.getD x.n.toNat 0 = 0 := by simp [List.getD]; rw [List.getElem?_eq_none (by omega)]; rfl
        rw [this]; unfold U; omega
    · split
      · split
        · exact u_wrap _
        · unfold U; omega
      · exact ⟨hx.2.2.2.2.1, hx.2.2.2.2.2⟩
  · rename_i a
    have ha := h a (by simp)
    unfold turnV
    split
    · split
      · unfold U; omega
      · unfold flipI; unfold U at ha ⊢; split <;> omega
    · split
      · have := rung_in (wrap64 a) (by unfold wrap64; omega) (by unfold wrap64; omega)
        unfold U; omega
      · split <;> exact u_wrap _
  · unfold joinN
    split
    · exact u_real _ _ _
    · exact u_wrap _

theorem u_stN (sl ins : List Int) (hsl : AllU sl) (x : Itm) (hx : x.ok) (st : List Int) (h : AllU st) : AllU (stN sl ins x st) := by
  intro v hv
  unfold stN at hv
  rcases List.mem_append.1 hv with hv | hv
  · exact h v (List.mem_of_mem_take hv)
  · simp at hv
    subst hv
    exact u_reck sl ins hsl x hx _ (fun u hu => h u (List.mem_of_mem_drop hu))

theorem NumsAt.allU {w : World} {a : Option Addr} {ns : List Int} (h : NumsAt .u64 w a ns) : AllU ns := by
  intro v hv
  obtain ⟨i, hi, rfl⟩ := List.getElem_of_mem hv
  obtain ⟨_, _, _, _, _, hw⟩ := h i hi
  have : ns.getD i 0 = ns[i] := by simp [List.getD, hi]
  rw [this] at hw
  exact bounds_u64 hw

/-- reckon, whatever it takes. -/
theorem reckon_any (x : Itm) (sa ia : Option Addr) (sn sc im ic g bl tn tc n : Nat) (sl ins st : List Int) (w : World) (hs : sn = sl.length) (hi : im = ins.length) (hx : x.ok) (hin : SlotIn sn x) (hS : NumsAt .u64 w sa sl) (hI : NumsAt .i64 w ia ins) (hsl : sn ≤ 1000000) (hil : im ≤ 1000000)
    (hst : Stk w g n st) (hU : AllU st) (htn : tn = tk x.op) (hbl : st.length = bl + tn) :
    Calls Try.prog 15 #[.agg #[.int .i64 x.op, .int .i64 x.bin, .int .u64 x.n], .slice sa sn sc, .slice ia im ic, .slice (some ⟨g, bl, none⟩) tn tc] w fun e w' => e = .returned (.tuple #[.int .u64 (reckN sl ins x (st.drop bl)), .bool (reckB x (st.drop bl))]) ∧ Below w.heap.size w w' := by
  have := tk_le x.op
  have hlt := hst.lt
  have ht : tn = 0 ∨ tn = 1 ∨ tn = 2 := by omega
  rcases ht with rfl | rfl | rfl
  · have e : st.drop bl = [] := List.drop_of_length_le (by omega)
    rw [e]
    exact reckon0 x sa ia _ sn sc im ic tc sl ins w hs hi hx hin hS hI hsl hil
  · have e : st.drop bl = [st.getD bl 0] := by rw [drop_here 0 st bl (by omega), List.drop_of_length_le (by omega)]
    rw [e]
    have hb : bl < st.length := by omega
    have hv : st[bl]? = some (st.getD bl 0) := by simp [List.getD, hb]
    have hu : U (st.getD bl 0) := hU _ (by have : st.getD bl 0 = st[bl] := by simp [List.getD, hb]
                                           rw [this]; exact List.getElem_mem _)
    exact reckon1 x _ _ g bl tc _ w hlt (hst.cell _ _ hv) hu.1 hu.2
  · have e : st.drop bl = [st.getD bl 0, st.getD (bl + 1) 0] := by rw [drop_here 0 st bl (by omega), drop_here 0 st (bl + 1) (by omega), List.drop_of_length_le (by omega)]
    rw [e]
    have hb : bl < st.length := by omega
    have hb1 : bl + 1 < st.length := by omega
    have hv : st[bl]? = some (st.getD bl 0) := by simp [List.getD, hb]
    have hv1 : st[bl + 1]? = some (st.getD (bl + 1) 0) := by simp [List.getD, hb1]
    have hu : U (st.getD bl 0) := hU _ (by have : st.getD bl 0 = st[bl] := by simp [List.getD, hb]
                                           rw [this]; exact List.getElem_mem _)
    have hu1 : U (st.getD (bl + 1) 0) := hU _ (by have : st.getD (bl + 1) 0 = st[bl + 1] := by simp [List.getD, hb1]
                                                  rw [this]; exact List.getElem_mem _)
    exact reckon2 x _ _ g bl tc _ _ w hlt (hst.cell _ _ hv) (hst.cell _ _ hv1) hu.1 hu.2 hu1.1 hu1.2
end Go.Proofs.Ytefcpidegnddiaa
