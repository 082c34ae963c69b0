/-
  DERIVED. GIVEN WITH THE SEED: THE CARDS: each row of YthckelcjncnalaaDoorRows.lean that lists a variable, with what it lists TIED to the program's text (the seventh form; the later family's looks); each row that meets fmt, with fmt's text TOLD by the authors' own Lean function (tested against real Go, not proved from fmt's source: count such statements apart). THE CARD IS WHAT COUNTS. Prove the row's statement (the work); the ties are given (YthckelcjncnalaaDoorTie.lean); close each card by the builder's one call (the guide's Derived/Test/ToyasCard.lean, 'card_holds'). Laid BY PROGRAM, IN A SANDBOX (cutbox-door.mjs). By AI agents, Wed Nov 11 2026. No macro, syntax, notation, axiom, sorry.
-/
import Derived.Test.YthckelcjncnalaaDoorRows
import GoSem.ClaimSeven
namespace Go.Proofs.YthckelcjncnalaaDoor
namespace Rows

/-- THE TIED CARD OF 'remakelaw.Checks'. -/
def checksCard : Claim7 := { stood := { row := checksRow, standIns := [], harness := (true, "91910c51c41b7f9b9c5dfa65fee5c898ce47c61ae33577e2ffc3a992bf331282"), looks := false }, kinds := [], alts := [], laidByText := true, laidKinds := [.data], laidTests := true, laidLooks := .later }
def ChecksCardSaid : Prop := Claim7.holds Tryd.pinned (.plain (OpenSpec.ofChange checksSpec)) checksCard

/-- THE TIED CARD OF 'remakelaw.Fitted'. -/
def fittedCard : Claim7 := { stood := { row := fittedRow, standIns := [], harness := (true, "91910c51c41b7f9b9c5dfa65fee5c898ce47c61ae33577e2ffc3a992bf331282"), looks := false }, kinds := [], alts := [], laidByText := true, laidKinds := [.data], laidTests := true, laidLooks := .later }
def FittedCardSaid : Prop := Claim7.holds Tryd.pinned (.plain (OpenSpec.ofChange fittedSpec)) fittedCard

/-- THE SECOND FORM's CARD OF 'remakelaw.Checks'. -/
def checksUptoCard : Claim7 := { stood := { row := checksUptoRow, standIns := [], harness := (true, "91910c51c41b7f9b9c5dfa65fee5c898ce47c61ae33577e2ffc3a992bf331282"), looks := false }, kinds := [], alts := [], laidByText := true, laidKinds := [.data], laidTests := true, laidLooks := .later }
def ChecksUptoCardSaid : Prop := Claim7.holds Tryd.pinned (.plain (OpenSpec.upto checksSpec)) checksUptoCard

/-- THE SECOND FORM's CARD OF 'remakelaw.Fitted'. -/
def fittedUptoCard : Claim7 := { stood := { row := fittedUptoRow, standIns := [], harness := (true, "91910c51c41b7f9b9c5dfa65fee5c898ce47c61ae33577e2ffc3a992bf331282"), looks := false }, kinds := [], alts := [], laidByText := true, laidKinds := [.data], laidTests := true, laidLooks := .later }
def FittedUptoCardSaid : Prop := Claim7.holds Tryd.pinned (.plain (OpenSpec.upto fittedSpec)) fittedUptoCard
end Rows
end Go.Proofs.YthckelcjncnalaaDoor
