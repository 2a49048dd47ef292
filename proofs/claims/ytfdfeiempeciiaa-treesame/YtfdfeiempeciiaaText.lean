/- The contract of the document's text: a number as eight bytes, which no other one has. -/
import Derived.Test.YtfdfeiempeciiaaVars
import Derived.Laws.BytesArg
namespace Go.Proofs.Ytfdfeiempeciiaa
open Go.ChangeShapes Go.WideShapes Go.ChangeAt Go.RowKit
set_option linter.unusedVariables false

/-- A number's eight bytes. -/
def txL (n : Int) : List Int := [IntKind.u64.wrap n % 256, IntKind.u64.wrap n / 256 % 256, IntKind.u64.wrap n / 65536 % 256, IntKind.u64.wrap n / 16777216 % 256, IntKind.u64.wrap n / 4294967296 % 256, IntKind.u64.wrap n / 1099511627776 % 256, IntKind.u64.wrap n / 281474976710656 % 256, IntKind.u64.wrap n / 72057594037927936 % 256]
def txt (n : Int) : ByteArray := strOfNums (txL n)

section
variable {ops : Array Oper} {rest : List Oper} {op : Oper} {a : Act} {w : World} {Q : Exit → Act → World → Prop}
theorem wl_tostr (x : Operand) (ho : op.op = .convert 101 9 x) (hw : Region.wanted op (yielded ops a.tmps) = true) (b : Nat) (hx : a.eval x = .slice (some ⟨b, 0, none⟩) 8 8) (xs : List Int) (hl : xs.length = 8) (hv : VarAt w b (xs.map (Value.int .u8)) 5)
    (h : wpList Try.prog ops Q rest (a.put op.dst (.string (strOfNums xs))) w) : wpList Try.prog ops Q (op :: rest) a w := by
  have r := run_convert_bytes_arg (P := Try.prog) w 101 5 Try.underlying101 Try.underlying5 b 0 8 8 xs hl (fun i hi => by
    rw [Nat.zero_add]
    refine hv.cell i ?_
    simp [List.getElem?_eq_getElem (show i < xs.length by omega), List.getD]) 9 Try.underlying9
  refine wpList_step fun K hK => ?_
  rw [if_pos hw]
  unfold Oper.wp execOp
  simp only [ho, hx, Sem.run_bind, r, Result.andThen_ok, Sem.run_pure]
  exact hK _ _ h
end

set_option maxRecDepth 100000 in
set_option maxHeartbeats 1000000 in
theorem text_any (n : Int) (w : World) : Calls Try.prog 34 #[.int .i64 n] w fun e w' => e = .returned (.string (txt n)) ∧ Below w.heap.size w w' := by
  have V := hid (VarAt.new w ((txL n).map (Value.int .u8)) 5)
  go_enter Try.func34, Try.ntmps34
  go_wp2_with (refine wl_tostr _ rfl rfl w.heap.size rfl (txL n) rfl V.out ?_)
  go_ret
  exact ⟨rfl, (Below.refl _ _).alloc (Nat.le_refl _) _⟩

theorem bytes_inj : ∀ (l m : List Int), (∀ x ∈ l, 0 ≤ x ∧ x < 256) → (∀ x ∈ m, 0 ≤ x ∧ x < 256) → l.map (fun n => UInt8.ofNat n.toNat) = m.map (fun n => UInt8.ofNat n.toNat) → l = m
  | [], [], _, _, _ => rfl
  | [], _ :: _, _, _, h => by simp at h
  | _ :: _, [], _, _, h => by simp at h
  | x :: r, y :: s, h1, h2, h => by
    simp only [List.map_cons, List.cons.injEq] at h
    have a := h1 x (by simp)
    have b := h2 y (by simp)
    have e : x = y := by
      have := congrArg UInt8.toNat h.1
      simp only [UInt8.toNat_ofNat'] at this
      omega
    rw [e, bytes_inj r s (fun z hz => h1 z (by simp [hz])) (fun z hz => h2 z (by simp [hz])) h.2]

theorem txt_inj (n m : Int) (hn : -9223372036854775808 ≤ n ∧ n ≤ 9223372036854775807) (hm : -9223372036854775808 ≤ m ∧ m ≤ 9223372036854775807) (h : (txt n).toList = (txt m).toList) : n = m := by
  have wr : ∀ k : Int, IntKind.u64.wrap k = k % 18446744073709551616 := fun k => by simp [IntKind.wrap, IntKind.signed, IntKind.bits]
  have hl : ∀ k : Int, ∀ x ∈ txL k, 0 ≤ x ∧ x < 256 := by
    intro k x hx
    simp only [txL, List.mem_cons, List.not_mem_nil, or_false] at hx
    rcases hx with rfl | rfl | rfl | rfl | rfl | rfl | rfl | rfl <;> omega
  have e : txL n = txL m := by
    rw [ByteArray.toList_eq, ByteArray.toList_eq] at h
    simp only [txt, strOfNums] at h
    exact bytes_inj _ _ (hl n) (hl m) h
  simp only [txL, wr, List.cons.injEq, and_true] at e
  omega
end Go.Proofs.Ytfdfeiempeciiaa
