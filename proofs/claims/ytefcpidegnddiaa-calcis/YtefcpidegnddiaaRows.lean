/-
  No cell of these rows narrows 'for every input' (looked for: loops, veiled, ifaces, maps, wideKeys, modest, calm, conditions, laid).
  DERIVED. THE GIVEN ROWS OF THIS SEAT. 5 by the template 'for every input the law returns true; each argument reads behind the call as it read before'; 0 by the template 'total and deterministic' (their statements: YtefcpidegnddiaaTotals.lean).
  GIVEN WITH THE SEED: the statements are not yours to turn. If you find one false, say at which input.
  Laid BY PROGRAM, IN A SANDBOX (cutbox-rows.mjs): the forced cells as the released guide's own fill.sh prints them over the translation 9b8df1589a8a59ab… (all of the seat's roots in one cut). By AI agents, Wed Nov 11 2026. No macro, syntax, notation, axiom, sorry.
-/
import Derived.Test.YtefcpidegnddiaaChecked
import GoSem.Claim
import GoSem.ClaimJoined
import GoSem.ClaimMapViews
import Derived.JoinedTies
import Derived.KernelRfl
namespace Go.Proofs.Ytefcpidegnddiaa
/- THE CELL 'sum', in the pinned program and in every row, IS THE sha256 OF THE DUMP (.gsa) THAT YtefcpidegnddiaaProg.lean LOADS. Nothing in Lean hashes anything: it is a label: what it is worth is what the hold of that sum in a sandbox is worth. -/
noncomputable def Try.pinned : Pinned := { name := "ytefcpidegnddiaa", sum := "9b8df1589a8a59ab1b6c221abf7143401bf7f650bafb688f7af4960a4d92dc3e", checked := Try.checked }
namespace Rows
def none {H : Type} : Left H := { results := [], args := [] }

/-- 'padlocklaw08.CalcIs': WHATEVER THE INPUT: true; the input reads as it did. -/
def calcIsSpec : ChangeSpec := { name := "calcIs", fn := fun _ => fun
  | [d1, d2, d3, d4] => { results := [.lit (.bool true)], args := [d1, d2, d3, d4] }
  | _ => none }
def calcIsRow : OpenClaim := { program := "ytefcpidegnddiaa", sum := "9b8df1589a8a59ab1b6c221abf7143401bf7f650bafb688f7af4960a4d92dc3e", func := "padlock/padlocklaw08.CalcIs", spec := "calcIs", inPlace := ["math.Float64frombits", "math.Float64bits"], recurses := true, apart := false }
def CalcIsSaid : Prop := calcIsRow.holds Try.pinned (OpenSpec.ofChange calcIsSpec)

/-- ITS FALSE NEIGHBOUR: 'it returns false'. Refute it at one input. -/
def calcIsWrong : ChangeSpec := { name := "calcIs", fn := fun _ => fun
  | [d1, d2, d3, d4] => { results := [.lit (.bool false)], args := [d1, d2, d3, d4] }
  | _ => none }
def CalcIsWrongFalsely : Prop := calcIsRow.holds Try.pinned (OpenSpec.ofChange calcIsWrong)

/-- 'padlocklaw08.CalcHangs': WHATEVER THE INPUT: true; the input reads as it did. -/
def calcHangsSpec : ChangeSpec := { name := "calcHangs", fn := fun _ => fun
  | [d1, d2, d3, d4] => { results := [.lit (.bool true)], args := [d1, d2, d3, d4] }
  | _ => none }
def calcHangsRow : OpenClaim := { program := "ytefcpidegnddiaa", sum := "9b8df1589a8a59ab1b6c221abf7143401bf7f650bafb688f7af4960a4d92dc3e", func := "padlock/padlocklaw08.CalcHangs", spec := "calcHangs", inPlace := ["math.Float64frombits", "math.Float64bits"], apart := false }
def CalcHangsSaid : Prop := calcHangsRow.holds Try.pinned (OpenSpec.ofChange calcHangsSpec)

/-- ITS FALSE NEIGHBOUR: 'it returns false'. Refute it at one input. -/
def calcHangsWrong : ChangeSpec := { name := "calcHangs", fn := fun _ => fun
  | [d1, d2, d3, d4] => { results := [.lit (.bool false)], args := [d1, d2, d3, d4] }
  | _ => none }
def CalcHangsWrongFalsely : Prop := calcHangsRow.holds Try.pinned (OpenSpec.ofChange calcHangsWrong)

/-- 'padlocklaw08.CalcJoins': WHATEVER THE INPUT: true; the input reads as it did. -/
def calcJoinsSpec : ChangeSpec := { name := "calcJoins", fn := fun _ => fun
  | [d1, d2, d3, d4] => { results := [.lit (.bool true)], args := [d1, d2, d3, d4] }
  | _ => none }
def calcJoinsRow : OpenClaim := { program := "ytefcpidegnddiaa", sum := "9b8df1589a8a59ab1b6c221abf7143401bf7f650bafb688f7af4960a4d92dc3e", func := "padlock/padlocklaw08.CalcJoins", spec := "calcJoins", inPlace := ["math.Float64frombits", "math.Float64bits"], apart := false }
def CalcJoinsSaid : Prop := calcJoinsRow.holds Try.pinned (OpenSpec.ofChange calcJoinsSpec)

/-- ITS FALSE NEIGHBOUR: 'it returns false'. Refute it at one input. -/
def calcJoinsWrong : ChangeSpec := { name := "calcJoins", fn := fun _ => fun
  | [d1, d2, d3, d4] => { results := [.lit (.bool false)], args := [d1, d2, d3, d4] }
  | _ => none }
def CalcJoinsWrongFalsely : Prop := calcJoinsRow.holds Try.pinned (OpenSpec.ofChange calcJoinsWrong)

/-- 'padlocklaw08.CalcTraps': WHATEVER THE INPUT: true; the input reads as it did. -/
def calcTrapsSpec : ChangeSpec := { name := "calcTraps", fn := fun _ => fun
  | [d1, d2, d3] => { results := [.lit (.bool true)], args := [d1, d2, d3] }
  | _ => none }
def calcTrapsRow : OpenClaim := { program := "ytefcpidegnddiaa", sum := "9b8df1589a8a59ab1b6c221abf7143401bf7f650bafb688f7af4960a4d92dc3e", func := "padlock/padlocklaw08.CalcTraps", spec := "calcTraps", inPlace := ["math.Float64frombits", "math.Float64bits"], apart := false }
def CalcTrapsSaid : Prop := calcTrapsRow.holds Try.pinned (OpenSpec.ofChange calcTrapsSpec)

/-- ITS FALSE NEIGHBOUR: 'it returns false'. Refute it at one input. -/
def calcTrapsWrong : ChangeSpec := { name := "calcTraps", fn := fun _ => fun
  | [d1, d2, d3] => { results := [.lit (.bool false)], args := [d1, d2, d3] }
  | _ => none }
def CalcTrapsWrongFalsely : Prop := calcTrapsRow.holds Try.pinned (OpenSpec.ofChange calcTrapsWrong)

/-- 'padlocklaw08.CalcLong': WHATEVER THE INPUT: true; the input reads as it did. -/
def calcLongSpec : ChangeSpec := { name := "calcLong", fn := fun _ => fun
  | [d1, d2] => { results := [.lit (.bool true)], args := [d1, d2] }
  | _ => none }
def calcLongRow : OpenClaim := { program := "ytefcpidegnddiaa", sum := "9b8df1589a8a59ab1b6c221abf7143401bf7f650bafb688f7af4960a4d92dc3e", func := "padlock/padlocklaw08.CalcLong", spec := "calcLong", inPlace := ["math.Float64frombits", "math.Float64bits"], apart := false }
def CalcLongSaid : Prop := calcLongRow.holds Try.pinned (OpenSpec.ofChange calcLongSpec)

/-- ITS FALSE NEIGHBOUR: 'it returns false'. Refute it at one input. -/
def calcLongWrong : ChangeSpec := { name := "calcLong", fn := fun _ => fun
  | [d1, d2] => { results := [.lit (.bool false)], args := [d1, d2] }
  | _ => none }
def CalcLongWrongFalsely : Prop := calcLongRow.holds Try.pinned (OpenSpec.ofChange calcLongWrong)

/- THE SECOND FORM. 'bulk': how many values and letters a reading holds, each counted each time it is reached (what is shared counts as often as it is met; a slice's spare places count too). A statement '..UptoSaid' is the law's where the arguments, and the package variables that the reading takes, are together of bulk at most 1048576: NARROWER than '..Said'. Prove '..Said' where nothing that the law and all that it calls make is longer than what came in: it says more and counts as full. Else prove '..UptoSaid'. A law counts once. -/
mutual
def uptoBulk {H : Type} : DataW H → Nat
  | .lit (.string bytes) => bytes.length + 1
  | .lit _ => 1
  | .nil => 1
  | .ptr d => uptoBulk d + 1
  | .slice elems spare => uptoBulkAll elems + uptoBulkAll spare + 1
  | .agg parts => uptoBulkAll parts + 1
  | .iface _ d => uptoBulk d + 1
  | .map entries => uptoBulkEntries entries + 1
  | .held _ => 1
def uptoBulkAll {H : Type} : List (DataW H) → Nat
  | [] => 0
  | d :: r => uptoBulk d + uptoBulkAll r
def uptoBulkEntries {H : Type} : List (Lit × DataW H) → Nat
  | [] => 0
  | x :: r => uptoBulkEntry x + uptoBulkEntries r
def uptoBulkEntry {H : Type} : Lit × DataW H → Nat
  | (.string bytes, d) => bytes.length + uptoBulk d + 1
  | (_, d) => uptoBulk d + 1
 end
def uptoSmall : (H : Type) → List (DataW H) → Bool := fun _ ds => decide (uptoBulkAll ds ≤ 1048576)
def OpenSpec.upto (s : _root_.Go.ChangeSpec) : _root_.Go.OpenSpec := { _root_.Go.OpenSpec.ofChange s with cond := some uptoSmall }

/-- 'padlocklaw08.CalcIs', WHERE WHAT IT READS IS OF BULK AT MOST 1048576: true; the input reads as it did. -/
def calcIsUptoRow : OpenClaim := { program := "ytefcpidegnddiaa", sum := "9b8df1589a8a59ab1b6c221abf7143401bf7f650bafb688f7af4960a4d92dc3e", func := "padlock/padlocklaw08.CalcIs", spec := "calcIs", inPlace := ["math.Float64frombits", "math.Float64bits"], recurses := true, apart := false, narrowed := true }
def CalcIsUptoSaid : Prop := calcIsUptoRow.holds Try.pinned (OpenSpec.upto calcIsSpec)

/-- 'padlocklaw08.CalcHangs', WHERE WHAT IT READS IS OF BULK AT MOST 1048576: true; the input reads as it did. -/
def calcHangsUptoRow : OpenClaim := { program := "ytefcpidegnddiaa", sum := "9b8df1589a8a59ab1b6c221abf7143401bf7f650bafb688f7af4960a4d92dc3e", func := "padlock/padlocklaw08.CalcHangs", spec := "calcHangs", inPlace := ["math.Float64frombits", "math.Float64bits"], apart := false, narrowed := true }
def CalcHangsUptoSaid : Prop := calcHangsUptoRow.holds Try.pinned (OpenSpec.upto calcHangsSpec)

/-- 'padlocklaw08.CalcJoins', WHERE WHAT IT READS IS OF BULK AT MOST 1048576: true; the input reads as it did. -/
def calcJoinsUptoRow : OpenClaim := { program := "ytefcpidegnddiaa", sum := "9b8df1589a8a59ab1b6c221abf7143401bf7f650bafb688f7af4960a4d92dc3e", func := "padlock/padlocklaw08.CalcJoins", spec := "calcJoins", inPlace := ["math.Float64frombits", "math.Float64bits"], apart := false, narrowed := true }
def CalcJoinsUptoSaid : Prop := calcJoinsUptoRow.holds Try.pinned (OpenSpec.upto calcJoinsSpec)

/-- 'padlocklaw08.CalcTraps', WHERE WHAT IT READS IS OF BULK AT MOST 1048576: true; the input reads as it did. -/
def calcTrapsUptoRow : OpenClaim := { program := "ytefcpidegnddiaa", sum := "9b8df1589a8a59ab1b6c221abf7143401bf7f650bafb688f7af4960a4d92dc3e", func := "padlock/padlocklaw08.CalcTraps", spec := "calcTraps", inPlace := ["math.Float64frombits", "math.Float64bits"], apart := false, narrowed := true }
def CalcTrapsUptoSaid : Prop := calcTrapsUptoRow.holds Try.pinned (OpenSpec.upto calcTrapsSpec)

/-- 'padlocklaw08.CalcLong', WHERE WHAT IT READS IS OF BULK AT MOST 1048576: true; the input reads as it did. -/
def calcLongUptoRow : OpenClaim := { program := "ytefcpidegnddiaa", sum := "9b8df1589a8a59ab1b6c221abf7143401bf7f650bafb688f7af4960a4d92dc3e", func := "padlock/padlocklaw08.CalcLong", spec := "calcLong", inPlace := ["math.Float64frombits", "math.Float64bits"], apart := false, narrowed := true }
def CalcLongUptoSaid : Prop := calcLongUptoRow.holds Try.pinned (OpenSpec.upto calcLongSpec)

end Rows
end Go.Proofs.Ytefcpidegnddiaa
