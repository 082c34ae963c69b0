/-
  DERIVED. GIVEN WITH THE SEED: THE CARDS: each row of YtbgilndohccicaaGreatDoorRows.lean that lists a variable, with what it lists TIED to the program's text (the seventh form; the later family's looks); each row that meets fmt, with fmt's text TOLD by the authors' own Lean function (tested against real Go, not proved from fmt's source: count such statements apart). THE CARD IS WHAT COUNTS. Prove the row's statement (the work); the ties are given (YtbgilndohccicaaGreatDoorTie.lean); close each card by the builder's one call (the guide's Derived/Test/ToyasCard.lean, 'card_holds'). Laid BY PROGRAM, IN A SANDBOX (cutbox-door.mjs). By AI agents, Wed Nov 11 2026. No macro, syntax, notation, axiom, sorry.
-/
import Derived.Test.YtbgilndohccicaaGreatDoorRows
import GoSem.ClaimSeven
namespace Go.Proofs.YtbgilndohccicaaGreatDoor
namespace Rows

/-- THE TIED CARD OF 'remakelaw.Numbers'. -/
def numbersCard : Claim7 := { stood := { row := numbersRow, standIns := [], harness := (true, "cc30285bfcc67a0f91d25cbdf5ec9d7d8c33ad7d72287c47d69d2362e3f7e84c"), looks := false }, kinds := [], alts := [], laidByText := true, laidKinds := [.data], laidTests := true, laidLooks := .later }
def NumbersCardSaid : Prop := Claim7.holds Tryz.pinned (.plain (OpenSpec.ofChange numbersSpec)) numbersCard

/-- THE TIED CARD OF 'remakelaw.Links'. -/
def linksCard : Claim7 := { stood := { row := linksRow, standIns := [], harness := (true, "cc30285bfcc67a0f91d25cbdf5ec9d7d8c33ad7d72287c47d69d2362e3f7e84c"), looks := false }, kinds := [], alts := [], laidByText := true, laidKinds := [.data], laidTests := true, laidLooks := .later }
def LinksCardSaid : Prop := Claim7.holds Tryz.pinned (.plain (OpenSpec.ofChange linksSpec)) linksCard

/-- THE TIED CARD OF 'remakelaw.Counted'. -/
def countedCard : Claim7 := { stood := { row := countedRow, standIns := [], harness := (true, "cc30285bfcc67a0f91d25cbdf5ec9d7d8c33ad7d72287c47d69d2362e3f7e84c"), looks := false }, kinds := [], alts := [], laidByText := true, laidKinds := [.data], laidTests := true, laidLooks := .later }
def CountedCardSaid : Prop := Claim7.holds Tryz.pinned (.plain (OpenSpec.ofChange countedSpec)) countedCard

/-- THE TIED CARD OF 'remakelaw.Begins'. -/
def beginsCard : Claim7 := { stood := { row := beginsRow, standIns := [], harness := (true, "cc30285bfcc67a0f91d25cbdf5ec9d7d8c33ad7d72287c47d69d2362e3f7e84c"), looks := false }, kinds := [], alts := [], laidByText := true, laidKinds := [.data], laidTests := true, laidLooks := .later }
def BeginsCardSaid : Prop := Claim7.holds Tryz.pinned (.plain (OpenSpec.ofChange beginsSpec)) beginsCard

/-- THE SECOND FORM's CARD OF 'remakelaw.Numbers'. -/
def numbersUptoCard : Claim7 := { stood := { row := numbersUptoRow, standIns := [], harness := (true, "cc30285bfcc67a0f91d25cbdf5ec9d7d8c33ad7d72287c47d69d2362e3f7e84c"), looks := false }, kinds := [], alts := [], laidByText := true, laidKinds := [.data], laidTests := true, laidLooks := .later }
def NumbersUptoCardSaid : Prop := Claim7.holds Tryz.pinned (.plain (OpenSpec.upto numbersSpec)) numbersUptoCard

/-- THE SECOND FORM's CARD OF 'remakelaw.Links'. -/
def linksUptoCard : Claim7 := { stood := { row := linksUptoRow, standIns := [], harness := (true, "cc30285bfcc67a0f91d25cbdf5ec9d7d8c33ad7d72287c47d69d2362e3f7e84c"), looks := false }, kinds := [], alts := [], laidByText := true, laidKinds := [.data], laidTests := true, laidLooks := .later }
def LinksUptoCardSaid : Prop := Claim7.holds Tryz.pinned (.plain (OpenSpec.upto linksSpec)) linksUptoCard

/-- THE SECOND FORM's CARD OF 'remakelaw.Counted'. -/
def countedUptoCard : Claim7 := { stood := { row := countedUptoRow, standIns := [], harness := (true, "cc30285bfcc67a0f91d25cbdf5ec9d7d8c33ad7d72287c47d69d2362e3f7e84c"), looks := false }, kinds := [], alts := [], laidByText := true, laidKinds := [.data], laidTests := true, laidLooks := .later }
def CountedUptoCardSaid : Prop := Claim7.holds Tryz.pinned (.plain (OpenSpec.upto countedSpec)) countedUptoCard

/-- THE SECOND FORM's CARD OF 'remakelaw.Begins'. -/
def beginsUptoCard : Claim7 := { stood := { row := beginsUptoRow, standIns := [], harness := (true, "cc30285bfcc67a0f91d25cbdf5ec9d7d8c33ad7d72287c47d69d2362e3f7e84c"), looks := false }, kinds := [], alts := [], laidByText := true, laidKinds := [.data], laidTests := true, laidLooks := .later }
def BeginsUptoCardSaid : Prop := Claim7.holds Tryz.pinned (.plain (OpenSpec.upto beginsSpec)) beginsUptoCard
end Rows
end Go.Proofs.YtbgilndohccicaaGreatDoor
