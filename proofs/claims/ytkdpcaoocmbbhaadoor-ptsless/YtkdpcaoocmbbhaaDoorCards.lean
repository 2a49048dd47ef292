/-
  DERIVED. GIVEN WITH THE SEED: THE CARDS: each row of YtkdpcaoocmbbhaaDoorRows.lean that lists a variable, with what it lists TIED to the program's text (the seventh form; the later family's looks); each row that meets fmt, with fmt's text TOLD by the authors' own Lean function (tested against real Go, not proved from fmt's source: count such statements apart). THE CARD IS WHAT COUNTS. Prove the row's statement (the work); the ties are given (YtkdpcaoocmbbhaaDoorTie.lean); close each card by the builder's one call (the guide's Derived/Test/ToyasCard.lean, 'card_holds'). Laid BY PROGRAM, IN A SANDBOX (cutbox-door.mjs). By AI agents, Wed Nov 11 2026. No macro, syntax, notation, axiom, sorry.
-/
import Derived.Test.YtkdpcaoocmbbhaaDoorRows
import GoSem.ClaimSeven
namespace Go.Proofs.YtkdpcaoocmbbhaaDoor
namespace Rows

/-- THE TIED CARD OF 'padlocklaw11.PtsIs'. -/
def ptsIsCard : Claim7 := { stood := { row := ptsIsRow, standIns := [], harness := (true, "ece19661858e2979e1a17e3c6a680c442b8d9a2aafa637b9d13fdf9bf509abda"), looks := false }, kinds := [], alts := [], laidByText := true, laidKinds := [.data], laidTests := true, laidLooks := .later }
def PtsIsCardSaid : Prop := Claim7.holds Tryd.pinned (.plain (OpenSpec.ofChange ptsIsSpec)) ptsIsCard

/-- THE TIED CARD OF 'padlocklaw11.PtsHolds'. -/
def ptsHoldsCard : Claim7 := { stood := { row := ptsHoldsRow, standIns := [], harness := (true, "ece19661858e2979e1a17e3c6a680c442b8d9a2aafa637b9d13fdf9bf509abda"), looks := false }, kinds := [], alts := [], laidByText := true, laidKinds := [.data], laidTests := true, laidLooks := .later }
def PtsHoldsCardSaid : Prop := Claim7.holds Tryd.pinned (.plain (OpenSpec.ofChange ptsHoldsSpec)) ptsHoldsCard

/-- THE TIED CARD OF 'padlocklaw11.PtsTyped'. -/
def ptsTypedCard : Claim7 := { stood := { row := ptsTypedRow, standIns := [], harness := (true, "ece19661858e2979e1a17e3c6a680c442b8d9a2aafa637b9d13fdf9bf509abda"), looks := false }, kinds := [], alts := [], laidByText := true, laidKinds := [.data], laidTests := true, laidLooks := .later }
def PtsTypedCardSaid : Prop := Claim7.holds Tryd.pinned (.plain (OpenSpec.ofChange ptsTypedSpec)) ptsTypedCard

/-- THE TIED CARD OF 'padlocklaw11.PtsEach'. -/
def ptsEachCard : Claim7 := { stood := { row := ptsEachRow, standIns := [], harness := (true, "ece19661858e2979e1a17e3c6a680c442b8d9a2aafa637b9d13fdf9bf509abda"), looks := false }, kinds := [], alts := [], laidByText := true, laidKinds := [.data], laidTests := true, laidLooks := .later }
def PtsEachCardSaid : Prop := Claim7.holds Tryd.pinned (.plain (OpenSpec.ofChange ptsEachSpec)) ptsEachCard

/-- THE TIED CARD OF 'padlocklaw11.PtsLess'. -/
def ptsLessCard : Claim7 := { stood := { row := ptsLessRow, standIns := [], harness := (true, "ece19661858e2979e1a17e3c6a680c442b8d9a2aafa637b9d13fdf9bf509abda"), looks := false }, kinds := [], alts := [], laidByText := true, laidKinds := [.data], laidTests := true, laidLooks := .later }
def PtsLessCardSaid : Prop := Claim7.holds Tryd.pinned (.plain (OpenSpec.ofChange ptsLessSpec)) ptsLessCard

/-- THE SECOND FORM's CARD OF 'padlocklaw11.PtsIs'. -/
def ptsIsUptoCard : Claim7 := { stood := { row := ptsIsUptoRow, standIns := [], harness := (true, "ece19661858e2979e1a17e3c6a680c442b8d9a2aafa637b9d13fdf9bf509abda"), looks := false }, kinds := [], alts := [], laidByText := true, laidKinds := [.data], laidTests := true, laidLooks := .later }
def PtsIsUptoCardSaid : Prop := Claim7.holds Tryd.pinned (.plain (OpenSpec.upto ptsIsSpec)) ptsIsUptoCard

/-- THE SECOND FORM's CARD OF 'padlocklaw11.PtsHolds'. -/
def ptsHoldsUptoCard : Claim7 := { stood := { row := ptsHoldsUptoRow, standIns := [], harness := (true, "ece19661858e2979e1a17e3c6a680c442b8d9a2aafa637b9d13fdf9bf509abda"), looks := false }, kinds := [], alts := [], laidByText := true, laidKinds := [.data], laidTests := true, laidLooks := .later }
def PtsHoldsUptoCardSaid : Prop := Claim7.holds Tryd.pinned (.plain (OpenSpec.upto ptsHoldsSpec)) ptsHoldsUptoCard

/-- THE SECOND FORM's CARD OF 'padlocklaw11.PtsTyped'. -/
def ptsTypedUptoCard : Claim7 := { stood := { row := ptsTypedUptoRow, standIns := [], harness := (true, "ece19661858e2979e1a17e3c6a680c442b8d9a2aafa637b9d13fdf9bf509abda"), looks := false }, kinds := [], alts := [], laidByText := true, laidKinds := [.data], laidTests := true, laidLooks := .later }
def PtsTypedUptoCardSaid : Prop := Claim7.holds Tryd.pinned (.plain (OpenSpec.upto ptsTypedSpec)) ptsTypedUptoCard

/-- THE SECOND FORM's CARD OF 'padlocklaw11.PtsEach'. -/
def ptsEachUptoCard : Claim7 := { stood := { row := ptsEachUptoRow, standIns := [], harness := (true, "ece19661858e2979e1a17e3c6a680c442b8d9a2aafa637b9d13fdf9bf509abda"), looks := false }, kinds := [], alts := [], laidByText := true, laidKinds := [.data], laidTests := true, laidLooks := .later }
def PtsEachUptoCardSaid : Prop := Claim7.holds Tryd.pinned (.plain (OpenSpec.upto ptsEachSpec)) ptsEachUptoCard

/-- THE SECOND FORM's CARD OF 'padlocklaw11.PtsLess'. -/
def ptsLessUptoCard : Claim7 := { stood := { row := ptsLessUptoRow, standIns := [], harness := (true, "ece19661858e2979e1a17e3c6a680c442b8d9a2aafa637b9d13fdf9bf509abda"), looks := false }, kinds := [], alts := [], laidByText := true, laidKinds := [.data], laidTests := true, laidLooks := .later }
def PtsLessUptoCardSaid : Prop := Claim7.holds Tryd.pinned (.plain (OpenSpec.upto ptsLessSpec)) ptsLessUptoCard
end Rows
end Go.Proofs.YtkdpcaoocmbbhaaDoor
