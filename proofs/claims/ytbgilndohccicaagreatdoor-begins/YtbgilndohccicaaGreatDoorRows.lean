/-
  NARROWER THAN 'FOR EVERY INPUT', by the rows' own cells (each row's printed sentence says how): Numbers: laid · Links: laid · Counted: laid · Begins: laid.
  DERIVED. THE GIVEN ROWS OF THIS SEAT. 4 by the template 'for every input the law returns true; each argument reads behind the call as it read before'; 0 by the template 'total and deterministic' (their statements: YtbgilndohccicaaGreatDoorTotals.lean).
  GIVEN WITH THE SEED: the statements are not yours to turn. If you find one false, say at which input.
  Laid BY PROGRAM, IN A SANDBOX (cutbox-rows.mjs): the forced cells as the released guide's own fill.sh prints them over the translation a98be3f458c5f15c… (all of the seat's roots in one cut). By AI agents, Wed Nov 11 2026. No macro, syntax, notation, axiom, sorry.
-/
import Derived.Test.YtbgilndohccicaaGreatDoorChecked
import GoSem.Claim
import GoSem.ClaimJoined
import GoSem.ClaimMapViews
import Derived.JoinedTies
import Derived.KernelRfl
namespace Go.Proofs.YtbgilndohccicaaGreatDoor
/- THE CELL 'sum', in the pinned program and in every row, IS THE sha256 OF THE DUMP (.gsa) THAT YtbgilndohccicaaGreatDoorProg.lean LOADS. Nothing in Lean hashes anything: it is a label: what it is worth is what the hold of that sum in a sandbox is worth. -/
noncomputable def Tryz.pinned : Pinned := { name := "ytbgilndohccicaagreatdoor", sum := "a98be3f458c5f15c7f67fda02022500c9c6c6410a856efa4606fb5f6d10a6e26", checked := Tryz.checked }
namespace Rows
def none {H : Type} : Left H := { results := [], args := [] }

/- WHAT THE LISTED PACKAGE-LEVEL VARIABLES READ AS WHEN THE CALL BEGINS. Each datum BY PROGRAM (the guide's laid-datum.mjs) off the statement by which the dump's own 'gosem.cut.vars' lays the variable. In a bare row this is a premise. The card (YtbgilndohccicaaGreatDoorCards.lean) ties it to the program's text. -/
def laid_remake_remakeref_ends {H : Type} : DataW H := .agg [.lit (.string []), .lit (.string [65, 123, 125]), .lit (.string [123, 125]), .lit (.string [97, 58, 98, 125]), .lit (.string [58, 98, 125]), .lit (.string [98, 125]), .lit (.string [125])]

/-- 'remakelaw.Numbers': WHATEVER THE INPUT: true; the input reads as it did. -/
def numbersSpec : ChangeSpec := { name := "numbers", fn := fun _ => fun
  | [d] => { results := [.lit (.bool true)], args := [d] }
  | _ => none }
def numbersRow : OpenClaim := { program := "ytbgilndohccicaagreatdoor", sum := "a98be3f458c5f15c7f67fda02022500c9c6c6410a856efa4606fb5f6d10a6e26", func := "remake/remakelaw.Numbers", spec := "numbers", recurses := true, named := ["remake/remakeref.ends"], apart := false, laid := [("remake/remakeref.ends", laid_remake_remakeref_ends)] }
def NumbersSaid : Prop := numbersRow.holds Tryz.pinned (OpenSpec.ofChange numbersSpec)

/-- ITS FALSE NEIGHBOUR: 'it returns false'. Refute it at one input. -/
def numbersWrong : ChangeSpec := { name := "numbers", fn := fun _ => fun
  | [d] => { results := [.lit (.bool false)], args := [d] }
  | _ => none }
def NumbersWrongFalsely : Prop := numbersRow.holds Tryz.pinned (OpenSpec.ofChange numbersWrong)

/-- 'remakelaw.Links': WHATEVER THE INPUT: true; the input reads as it did. -/
def linksSpec : ChangeSpec := { name := "links", fn := fun _ => fun
  | [d] => { results := [.lit (.bool true)], args := [d] }
  | _ => none }
def linksRow : OpenClaim := { program := "ytbgilndohccicaagreatdoor", sum := "a98be3f458c5f15c7f67fda02022500c9c6c6410a856efa4606fb5f6d10a6e26", func := "remake/remakelaw.Links", spec := "links", recurses := true, named := ["remake/remakeref.ends"], apart := false, laid := [("remake/remakeref.ends", laid_remake_remakeref_ends)] }
def LinksSaid : Prop := linksRow.holds Tryz.pinned (OpenSpec.ofChange linksSpec)

/-- ITS FALSE NEIGHBOUR: 'it returns false'. Refute it at one input. -/
def linksWrong : ChangeSpec := { name := "links", fn := fun _ => fun
  | [d] => { results := [.lit (.bool false)], args := [d] }
  | _ => none }
def LinksWrongFalsely : Prop := linksRow.holds Tryz.pinned (OpenSpec.ofChange linksWrong)

/-- 'remakelaw.Counted': WHATEVER THE INPUT: true; the input reads as it did. -/
def countedSpec : ChangeSpec := { name := "counted", fn := fun _ => fun
  | [d] => { results := [.lit (.bool true)], args := [d] }
  | _ => none }
def countedRow : OpenClaim := { program := "ytbgilndohccicaagreatdoor", sum := "a98be3f458c5f15c7f67fda02022500c9c6c6410a856efa4606fb5f6d10a6e26", func := "remake/remakelaw.Counted", spec := "counted", recurses := true, named := ["remake/remakeref.ends"], apart := false, laid := [("remake/remakeref.ends", laid_remake_remakeref_ends)] }
def CountedSaid : Prop := countedRow.holds Tryz.pinned (OpenSpec.ofChange countedSpec)

/-- ITS FALSE NEIGHBOUR: 'it returns false'. Refute it at one input. -/
def countedWrong : ChangeSpec := { name := "counted", fn := fun _ => fun
  | [d] => { results := [.lit (.bool false)], args := [d] }
  | _ => none }
def CountedWrongFalsely : Prop := countedRow.holds Tryz.pinned (OpenSpec.ofChange countedWrong)

/-- 'remakelaw.Begins': WHATEVER THE INPUT: true; the input reads as it did. -/
def beginsSpec : ChangeSpec := { name := "begins", fn := fun _ => fun
  | [d] => { results := [.lit (.bool true)], args := [d] }
  | _ => none }
def beginsRow : OpenClaim := { program := "ytbgilndohccicaagreatdoor", sum := "a98be3f458c5f15c7f67fda02022500c9c6c6410a856efa4606fb5f6d10a6e26", func := "remake/remakelaw.Begins", spec := "begins", recurses := true, named := ["remake/remakeref.ends"], apart := false, laid := [("remake/remakeref.ends", laid_remake_remakeref_ends)] }
def BeginsSaid : Prop := beginsRow.holds Tryz.pinned (OpenSpec.ofChange beginsSpec)

/-- ITS FALSE NEIGHBOUR: 'it returns false'. Refute it at one input. -/
def beginsWrong : ChangeSpec := { name := "begins", fn := fun _ => fun
  | [d] => { results := [.lit (.bool false)], args := [d] }
  | _ => none }
def BeginsWrongFalsely : Prop := beginsRow.holds Tryz.pinned (OpenSpec.ofChange beginsWrong)

/- THE SECOND FORM. 'bulk': how many values and letters a reading holds, each counted each time it is reached (what is shared counts as often as it is met; a slice's spare places count too). A statement '..UptoSaid' is the law's where the arguments, and the package variables that the reading takes, are together of bulk at most 1048576: NARROWER than '..Said'. Prove '..Said' where nothing that the law and all that it calls make is longer than what came in: it says more and counts as full. Else prove '..UptoSaid'. A law counts once. -/
mutual
def uptoBulk {H : Type} : DataW H → Nat
  | .lit (.string bytes) => bytes.length + 1
  | .lit _ => 1
  | .nil => 1
  | .ptr d => uptoBulk d + 1
  | .slice elems spare => uptoBulkAll elems + uptoBulkAll spare + 1
  | .agg parts => uptoBulkAll parts + 1
  | .iface _ d => uptoBulk d + 1
  | .map entries => uptoBulkEntries entries + 1
  | .held _ => 1
def uptoBulkAll {H : Type} : List (DataW H) → Nat
  | [] => 0
  | d :: r => uptoBulk d + uptoBulkAll r
def uptoBulkEntries {H : Type} : List (Lit × DataW H) → Nat
  | [] => 0
  | x :: r => uptoBulkEntry x + uptoBulkEntries r
def uptoBulkEntry {H : Type} : Lit × DataW H → Nat
  | (.string bytes, d) => bytes.length + uptoBulk d + 1
  | (_, d) => uptoBulk d + 1
 end
def uptoSmall : (H : Type) → List (DataW H) → Bool := fun _ ds => decide (uptoBulkAll ds ≤ 1048576)
def OpenSpec.upto (s : _root_.Go.ChangeSpec) : _root_.Go.OpenSpec := { _root_.Go.OpenSpec.ofChange s with cond := some uptoSmall }

/-- 'remakelaw.Numbers', WHERE WHAT IT READS IS OF BULK AT MOST 1048576: true; the input reads as it did. -/
def numbersUptoRow : OpenClaim := { program := "ytbgilndohccicaagreatdoor", sum := "a98be3f458c5f15c7f67fda02022500c9c6c6410a856efa4606fb5f6d10a6e26", func := "remake/remakelaw.Numbers", spec := "numbers", recurses := true, named := ["remake/remakeref.ends"], apart := false, laid := [("remake/remakeref.ends", laid_remake_remakeref_ends)], narrowed := true }
def NumbersUptoSaid : Prop := numbersUptoRow.holds Tryz.pinned (OpenSpec.upto numbersSpec)

/-- 'remakelaw.Links', WHERE WHAT IT READS IS OF BULK AT MOST 1048576: true; the input reads as it did. -/
def linksUptoRow : OpenClaim := { program := "ytbgilndohccicaagreatdoor", sum := "a98be3f458c5f15c7f67fda02022500c9c6c6410a856efa4606fb5f6d10a6e26", func := "remake/remakelaw.Links", spec := "links", recurses := true, named := ["remake/remakeref.ends"], apart := false, laid := [("remake/remakeref.ends", laid_remake_remakeref_ends)], narrowed := true }
def LinksUptoSaid : Prop := linksUptoRow.holds Tryz.pinned (OpenSpec.upto linksSpec)

/-- 'remakelaw.Counted', WHERE WHAT IT READS IS OF BULK AT MOST 1048576: true; the input reads as it did. -/
def countedUptoRow : OpenClaim := { program := "ytbgilndohccicaagreatdoor", sum := "a98be3f458c5f15c7f67fda02022500c9c6c6410a856efa4606fb5f6d10a6e26", func := "remake/remakelaw.Counted", spec := "counted", recurses := true, named := ["remake/remakeref.ends"], apart := false, laid := [("remake/remakeref.ends", laid_remake_remakeref_ends)], narrowed := true }
def CountedUptoSaid : Prop := countedUptoRow.holds Tryz.pinned (OpenSpec.upto countedSpec)

/-- 'remakelaw.Begins', WHERE WHAT IT READS IS OF BULK AT MOST 1048576: true; the input reads as it did. -/
def beginsUptoRow : OpenClaim := { program := "ytbgilndohccicaagreatdoor", sum := "a98be3f458c5f15c7f67fda02022500c9c6c6410a856efa4606fb5f6d10a6e26", func := "remake/remakelaw.Begins", spec := "begins", recurses := true, named := ["remake/remakeref.ends"], apart := false, laid := [("remake/remakeref.ends", laid_remake_remakeref_ends)], narrowed := true }
def BeginsUptoSaid : Prop := beginsUptoRow.holds Tryz.pinned (OpenSpec.upto beginsSpec)

end Rows
end Go.Proofs.YtbgilndohccicaaGreatDoor
