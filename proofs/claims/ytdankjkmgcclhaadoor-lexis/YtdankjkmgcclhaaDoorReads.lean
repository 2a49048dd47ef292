/- How the laws read rows of tokens. -/
import Derived.Test.YtdankjkmgcclhaaDoorStab
import Derived.Test.YtdankjkmgcclhaaDoorAlive
namespace Go.Proofs.YtdankjkmgcclhaaDoor
open Go.ChangeShapes Go.WideShapes Go.ChangeAt Go.RowKit
set_option linter.unusedVariables false

theorem bstr_app (a b : List UInt8) : bstr a ++ bstr b = bstr (a ++ b) := by
  apply WideShapes.bytes_inj
  simp [bstr]

theorem below_drewN {B : Nat} {a w : World} (h : Below B a w) (n : Nat) : Below B a (w.drewN n) := ⟨h.os, h.tape, h.output, h.size, h.block⟩

/-- A token's cells, for the walk to take. -/
theorem row5 {W : World} {g : Nat} {ts : List Tok} (R : RowAt W g ts) {k : Nat} {t : Tok} (h : ts[k]? = some t) :
    W.cell? ⟨g, k * 5, none⟩ = some (.int .i64 t.kind) ∧ W.cell? ⟨g, k * 5 + 1, none⟩ = some (.string (bstr t.text)) ∧ W.cell? ⟨g, k * 5 + 2, none⟩ = some (.int .u64 t.n) ∧
    W.cell? ⟨g, k * 5 + 3, none⟩ = some (.int .i64 t.line) ∧ W.cell? ⟨g, k * 5 + 4, none⟩ = some (.int .i64 t.col) :=
  ⟨R k t h 0 _ rfl, R k t h 1 _ rfl, R k t h 2 _ rfl, R k t h 3 _ rfl, R k t h 4 _ rfl⟩
end Go.Proofs.YtdankjkmgcclhaaDoor
