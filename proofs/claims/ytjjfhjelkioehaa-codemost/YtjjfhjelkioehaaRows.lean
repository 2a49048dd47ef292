/-
  No cell of these rows narrows 'for every input' (looked for: loops, veiled, ifaces, maps, wideKeys, modest, calm, conditions, laid).
  DERIVED. THE GIVEN ROWS OF THIS SEAT. 4 by the template 'for every input the law returns true; each argument reads behind the call as it read before'; 0 by the template 'total and deterministic' (their statements: YtjjfhjelkioehaaTotals.lean).
  GIVEN WITH THE SEED: the statements are not yours to turn. If you find one false, say at which input.
  Laid BY PROGRAM, IN A SANDBOX (cutbox-rows.mjs): the forced cells as the released guide's own fill.sh prints them over the translation 413dfc4012aae439… (all of the seat's roots in one cut). By AI agents, Wed Nov 11 2026. No macro, syntax, notation, axiom, sorry.
-/
import Derived.Test.YtjjfhjelkioehaaChecked
import GoSem.Claim
import GoSem.ClaimJoined
import GoSem.ClaimMapViews
import Derived.JoinedTies
import Derived.KernelRfl
namespace Go.Proofs.Ytjjfhjelkioehaa
/- THE CELL 'sum', in the pinned program and in every row, IS THE sha256 OF THE DUMP (.gsa) THAT YtjjfhjelkioehaaProg.lean LOADS. Nothing in Lean hashes anything: it is a label: what it is worth is what the hold of that sum in a sandbox is worth. -/
noncomputable def Try.pinned : Pinned := { name := "ytjjfhjelkioehaa", sum := "413dfc4012aae439c72f47f1a4849df3fdaaf1488cc2addd73792b906facc541", checked := Try.checked }
namespace Rows
def none {H : Type} : Left H := { results := [], args := [] }

/-- 'padlocklaw09.CodeIs': WHATEVER THE INPUT: true; the input reads as it did. -/
def codeIsSpec : ChangeSpec := { name := "codeIs", fn := fun _ => fun
  | [d] => { results := [.lit (.bool true)], args := [d] }
  | _ => none }
def codeIsRow : OpenClaim := { program := "ytjjfhjelkioehaa", sum := "413dfc4012aae439c72f47f1a4849df3fdaaf1488cc2addd73792b906facc541", func := "padlock/padlocklaw09.CodeIs", spec := "codeIs", unfollowed := true, recurses := true, apart := false }
def CodeIsSaid : Prop := codeIsRow.holds Try.pinned (OpenSpec.ofChange codeIsSpec)

/-- ITS FALSE NEIGHBOUR: 'it returns false'. Refute it at one input. -/
def codeIsWrong : ChangeSpec := { name := "codeIs", fn := fun _ => fun
  | [d] => { results := [.lit (.bool false)], args := [d] }
  | _ => none }
def CodeIsWrongFalsely : Prop := codeIsRow.holds Try.pinned (OpenSpec.ofChange codeIsWrong)

/-- 'padlocklaw09.CodeTells': WHATEVER THE INPUT: true; the input reads as it did. -/
def codeTellsSpec : ChangeSpec := { name := "codeTells", fn := fun _ => fun
  | [d1, d2, d3, d4] => { results := [.lit (.bool true)], args := [d1, d2, d3, d4] }
  | _ => none }
def codeTellsRow : OpenClaim := { program := "ytjjfhjelkioehaa", sum := "413dfc4012aae439c72f47f1a4849df3fdaaf1488cc2addd73792b906facc541", func := "padlock/padlocklaw09.CodeTells", spec := "codeTells", unfollowed := true, recurses := true, apart := false }
def CodeTellsSaid : Prop := codeTellsRow.holds Try.pinned (OpenSpec.ofChange codeTellsSpec)

/-- ITS FALSE NEIGHBOUR: 'it returns false'. Refute it at one input. -/
def codeTellsWrong : ChangeSpec := { name := "codeTells", fn := fun _ => fun
  | [d1, d2, d3, d4] => { results := [.lit (.bool false)], args := [d1, d2, d3, d4] }
  | _ => none }
def CodeTellsWrongFalsely : Prop := codeTellsRow.holds Try.pinned (OpenSpec.ofChange codeTellsWrong)

/-- 'padlocklaw09.CodeGuards': WHATEVER THE INPUT: true; the input reads as it did. -/
def codeGuardsSpec : ChangeSpec := { name := "codeGuards", fn := fun _ => fun
  | [d] => { results := [.lit (.bool true)], args := [d] }
  | _ => none }
def codeGuardsRow : OpenClaim := { program := "ytjjfhjelkioehaa", sum := "413dfc4012aae439c72f47f1a4849df3fdaaf1488cc2addd73792b906facc541", func := "padlock/padlocklaw09.CodeGuards", spec := "codeGuards", unfollowed := true, recurses := true, apart := false }
def CodeGuardsSaid : Prop := codeGuardsRow.holds Try.pinned (OpenSpec.ofChange codeGuardsSpec)

/-- ITS FALSE NEIGHBOUR: 'it returns false'. Refute it at one input. -/
def codeGuardsWrong : ChangeSpec := { name := "codeGuards", fn := fun _ => fun
  | [d] => { results := [.lit (.bool false)], args := [d] }
  | _ => none }
def CodeGuardsWrongFalsely : Prop := codeGuardsRow.holds Try.pinned (OpenSpec.ofChange codeGuardsWrong)

/-- 'padlocklaw09.CodeMost': WHATEVER THE INPUT: true; the input reads as it did. -/
def codeMostSpec : ChangeSpec := { name := "codeMost", fn := fun _ => fun
  | [d1, d2, d3] => { results := [.lit (.bool true)], args := [d1, d2, d3] }
  | _ => none }
def codeMostRow : OpenClaim := { program := "ytjjfhjelkioehaa", sum := "413dfc4012aae439c72f47f1a4849df3fdaaf1488cc2addd73792b906facc541", func := "padlock/padlocklaw09.CodeMost", spec := "codeMost", unfollowed := true, recurses := true, apart := false }
def CodeMostSaid : Prop := codeMostRow.holds Try.pinned (OpenSpec.ofChange codeMostSpec)

/-- ITS FALSE NEIGHBOUR: 'it returns false'. Refute it at one input. -/
def codeMostWrong : ChangeSpec := { name := "codeMost", fn := fun _ => fun
  | [d1, d2, d3] => { results := [.lit (.bool false)], args := [d1, d2, d3] }
  | _ => none }
def CodeMostWrongFalsely : Prop := codeMostRow.holds Try.pinned (OpenSpec.ofChange codeMostWrong)

/- THE SECOND FORM. 'bulk': how many values and letters a reading holds, each counted each time it is reached (what is shared counts as often as it is met; a slice's spare places count too). A statement '..UptoSaid' is the law's where the arguments, and the package variables that the reading takes, are together of bulk at most 1048576: NARROWER than '..Said'. Prove '..Said' where nothing that the law and all that it calls make is longer than what came in: it says more and counts as full. Else prove '..UptoSaid'. A law counts once. -/
mutual
def uptoBulk {H : Type} : DataW H → Nat
  | .lit (.string bytes) => bytes.length + 1
  | .lit _ => 1
  | .nil => 1
  | .ptr d => uptoBulk d + 1
  | .slice elems spare => uptoBulkAll elems + uptoBulkAll spare + 1
  | .agg parts => uptoBulkAll parts + 1
  | .iface _ d => uptoBulk d + 1
  | .map entries => uptoBulkEntries entries + 1
  | .held _ => 1
def uptoBulkAll {H : Type} : List (DataW H) → Nat
  | [] => 0
  | d :: r => uptoBulk d + uptoBulkAll r
def uptoBulkEntries {H : Type} : List (Lit × DataW H) → Nat
  | [] => 0
  | x :: r => uptoBulkEntry x + uptoBulkEntries r
def uptoBulkEntry {H : Type} : Lit × DataW H → Nat
  | (.string bytes, d) => bytes.length + uptoBulk d + 1
  | (_, d) => uptoBulk d + 1
 end
def uptoSmall : (H : Type) → List (DataW H) → Bool := fun _ ds => decide (uptoBulkAll ds ≤ 1048576)
def OpenSpec.upto (s : _root_.Go.ChangeSpec) : _root_.Go.OpenSpec := { _root_.Go.OpenSpec.ofChange s with cond := some uptoSmall }

/-- 'padlocklaw09.CodeIs', WHERE WHAT IT READS IS OF BULK AT MOST 1048576: true; the input reads as it did. -/
def codeIsUptoRow : OpenClaim := { program := "ytjjfhjelkioehaa", sum := "413dfc4012aae439c72f47f1a4849df3fdaaf1488cc2addd73792b906facc541", func := "padlock/padlocklaw09.CodeIs", spec := "codeIs", unfollowed := true, recurses := true, apart := false, narrowed := true }
def CodeIsUptoSaid : Prop := codeIsUptoRow.holds Try.pinned (OpenSpec.upto codeIsSpec)

/-- 'padlocklaw09.CodeTells', WHERE WHAT IT READS IS OF BULK AT MOST 1048576: true; the input reads as it did. -/
def codeTellsUptoRow : OpenClaim := { program := "ytjjfhjelkioehaa", sum := "413dfc4012aae439c72f47f1a4849df3fdaaf1488cc2addd73792b906facc541", func := "padlock/padlocklaw09.CodeTells", spec := "codeTells", unfollowed := true, recurses := true, apart := false, narrowed := true }
def CodeTellsUptoSaid : Prop := codeTellsUptoRow.holds Try.pinned (OpenSpec.upto codeTellsSpec)

/-- 'padlocklaw09.CodeGuards', WHERE WHAT IT READS IS OF BULK AT MOST 1048576: true; the input reads as it did. -/
def codeGuardsUptoRow : OpenClaim := { program := "ytjjfhjelkioehaa", sum := "413dfc4012aae439c72f47f1a4849df3fdaaf1488cc2addd73792b906facc541", func := "padlock/padlocklaw09.CodeGuards", spec := "codeGuards", unfollowed := true, recurses := true, apart := false, narrowed := true }
def CodeGuardsUptoSaid : Prop := codeGuardsUptoRow.holds Try.pinned (OpenSpec.upto codeGuardsSpec)

/-- 'padlocklaw09.CodeMost', WHERE WHAT IT READS IS OF BULK AT MOST 1048576: true; the input reads as it did. -/
def codeMostUptoRow : OpenClaim := { program := "ytjjfhjelkioehaa", sum := "413dfc4012aae439c72f47f1a4849df3fdaaf1488cc2addd73792b906facc541", func := "padlock/padlocklaw09.CodeMost", spec := "codeMost", unfollowed := true, recurses := true, apart := false, narrowed := true }
def CodeMostUptoSaid : Prop := codeMostUptoRow.holds Try.pinned (OpenSpec.upto codeMostSpec)

end Rows
end Go.Proofs.Ytjjfhjelkioehaa
