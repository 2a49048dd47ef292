/-
  DERIVED. GIVEN WITH THE SEED: THE CARDS: each row of YtdpbapoahfggeaaDoorRows.lean that lists a variable, with what it lists TIED to the program's text (the seventh form; the later family's looks); each row that meets fmt, with fmt's text TOLD by the authors' own Lean function (tested against real Go, not proved from fmt's source: count such statements apart). THE CARD IS WHAT COUNTS. Prove the row's statement (the work); the ties are given (YtdpbapoahfggeaaDoorTie.lean); close each card by the builder's one call (the guide's Derived/Test/ToyasCard.lean, 'card_holds'). Laid BY PROGRAM, IN A SANDBOX (cutbox-door.mjs). By AI agents, Wed Nov 11 2026. No macro, syntax, notation, axiom, sorry.
-/
import Derived.Test.YtdpbapoahfggeaaDoorRows
import GoSem.ClaimSeven
namespace Go.Proofs.YtdpbapoahfggeaaDoor
namespace Rows

/-- THE TIED CARD OF 'padlocklaw12.ClassIs'. -/
def classIsCard : Claim7 := { stood := { row := classIsRow, standIns := [], harness := (true, "95ccdf6d9c9b45ae7f629a615b5b2947a3652aba9abff8e5b3139127bcbf17d1"), looks := false }, kinds := [], alts := [], laidByText := true, laidKinds := [.data], laidTests := true, laidLooks := .later }
def ClassIsCardSaid : Prop := Claim7.holds Tryd.pinned (.plain (OpenSpec.ofChange classIsSpec)) classIsCard

/-- THE TIED CARD OF 'padlocklaw12.ClassWhole'. -/
def classWholeCard : Claim7 := { stood := { row := classWholeRow, standIns := [], harness := (true, "95ccdf6d9c9b45ae7f629a615b5b2947a3652aba9abff8e5b3139127bcbf17d1"), looks := false }, kinds := [], alts := [], laidByText := true, laidKinds := [.data], laidTests := true, laidLooks := .later }
def ClassWholeCardSaid : Prop := Claim7.holds Tryd.pinned (.plain (OpenSpec.ofChange classWholeSpec)) classWholeCard

/-- THE TIED CARD OF 'padlocklaw12.ClassFine'. -/
def classFineCard : Claim7 := { stood := { row := classFineRow, standIns := [], harness := (true, "95ccdf6d9c9b45ae7f629a615b5b2947a3652aba9abff8e5b3139127bcbf17d1"), looks := false }, kinds := [], alts := [], laidByText := true, laidKinds := [.data], laidTests := true, laidLooks := .later }
def ClassFineCardSaid : Prop := Claim7.holds Tryd.pinned (.plain (OpenSpec.ofChange classFineSpec)) classFineCard

/-- THE TIED CARD OF 'padlocklaw12.ClassMore'. -/
def classMoreCard : Claim7 := { stood := { row := classMoreRow, standIns := [], harness := (true, "95ccdf6d9c9b45ae7f629a615b5b2947a3652aba9abff8e5b3139127bcbf17d1"), looks := false }, kinds := [], alts := [], laidByText := true, laidKinds := [.data], laidTests := true, laidLooks := .later }
def ClassMoreCardSaid : Prop := Claim7.holds Tryd.pinned (.plain (OpenSpec.ofChange classMoreSpec)) classMoreCard

/-- THE SECOND FORM's CARD OF 'padlocklaw12.ClassIs'. -/
def classIsUptoCard : Claim7 := { stood := { row := classIsUptoRow, standIns := [], harness := (true, "95ccdf6d9c9b45ae7f629a615b5b2947a3652aba9abff8e5b3139127bcbf17d1"), looks := false }, kinds := [], alts := [], laidByText := true, laidKinds := [.data], laidTests := true, laidLooks := .later }
def ClassIsUptoCardSaid : Prop := Claim7.holds Tryd.pinned (.plain (OpenSpec.upto classIsSpec)) classIsUptoCard

/-- THE SECOND FORM's CARD OF 'padlocklaw12.ClassWhole'. -/
def classWholeUptoCard : Claim7 := { stood := { row := classWholeUptoRow, standIns := [], harness := (true, "95ccdf6d9c9b45ae7f629a615b5b2947a3652aba9abff8e5b3139127bcbf17d1"), looks := false }, kinds := [], alts := [], laidByText := true, laidKinds := [.data], laidTests := true, laidLooks := .later }
def ClassWholeUptoCardSaid : Prop := Claim7.holds Tryd.pinned (.plain (OpenSpec.upto classWholeSpec)) classWholeUptoCard

/-- THE SECOND FORM's CARD OF 'padlocklaw12.ClassFine'. -/
def classFineUptoCard : Claim7 := { stood := { row := classFineUptoRow, standIns := [], harness := (true, "95ccdf6d9c9b45ae7f629a615b5b2947a3652aba9abff8e5b3139127bcbf17d1"), looks := false }, kinds := [], alts := [], laidByText := true, laidKinds := [.data], laidTests := true, laidLooks := .later }
def ClassFineUptoCardSaid : Prop := Claim7.holds Tryd.pinned (.plain (OpenSpec.upto classFineSpec)) classFineUptoCard

/-- THE SECOND FORM's CARD OF 'padlocklaw12.ClassMore'. -/
def classMoreUptoCard : Claim7 := { stood := { row := classMoreUptoRow, standIns := [], harness := (true, "95ccdf6d9c9b45ae7f629a615b5b2947a3652aba9abff8e5b3139127bcbf17d1"), looks := false }, kinds := [], alts := [], laidByText := true, laidKinds := [.data], laidTests := true, laidLooks := .later }
def ClassMoreUptoCardSaid : Prop := Claim7.holds Tryd.pinned (.plain (OpenSpec.upto classMoreSpec)) classMoreUptoCard
end Rows
end Go.Proofs.YtdpbapoahfggeaaDoor
