/-
  No cell of these rows narrows 'for every input' (looked for: loops, veiled, ifaces, maps, wideKeys, modest, calm, conditions, laid).
  DERIVED. THE GIVEN ROWS OF THIS SEAT. 4 by the template 'for every input the law returns true; each argument reads behind the call as it read before'; 0 by the template 'total and deterministic' (their statements: YtbgilndohccicabTotals.lean).
  GIVEN WITH THE SEED: the statements are not yours to turn. If you find one false, say at which input.
  Laid BY PROGRAM, IN A SANDBOX (cutbox-rows.mjs): the forced cells as the released guide's own fill.sh prints them over the translation 37c4b3feb5040413… (all of the seat's roots in one cut). By AI agents, Wed Nov 11 2026. No macro, syntax, notation, axiom, sorry.
-/
import Derived.Test.YtbgilndohccicabChecked
import GoSem.Claim
import GoSem.ClaimJoined
import GoSem.ClaimMapViews
import Derived.JoinedTies
import Derived.KernelRfl
namespace Go.Proofs.Ytbgilndohccicab
/- THE CELL 'sum', in the pinned program and in every row, IS THE sha256 OF THE DUMP (.gsa) THAT YtbgilndohccicabProg.lean LOADS. Nothing in Lean hashes anything: it is a label: what it is worth is what the hold of that sum in a sandbox is worth. -/
noncomputable def Try.pinned : Pinned := { name := "ytbgilndohccicab", sum := "37c4b3feb5040413a6cd41ae3c6a04152e4bf0dfc6e0b5c0d54c5459434636b4", checked := Try.checked }
namespace Rows
def none {H : Type} : Left H := { results := [], args := [] }

/-- 'remakekeep.Written': WHATEVER THE INPUT: true; the input reads as it did. -/
def writtenSpec : ChangeSpec := { name := "written", fn := fun _ => fun
  | [d] => { results := [.lit (.bool true)], args := [d] }
  | _ => none }
def writtenRow : OpenClaim := { program := "ytbgilndohccicab", sum := "37c4b3feb5040413a6cd41ae3c6a04152e4bf0dfc6e0b5c0d54c5459434636b4", func := "remake/remakekeep.Written", spec := "written", recurses := true, apart := false }
def WrittenSaid : Prop := writtenRow.holds Try.pinned (OpenSpec.ofChange writtenSpec)

/-- ITS FALSE NEIGHBOUR: 'it returns false'. Refute it at one input. -/
def writtenWrong : ChangeSpec := { name := "written", fn := fun _ => fun
  | [d] => { results := [.lit (.bool false)], args := [d] }
  | _ => none }
def WrittenWrongFalsely : Prop := writtenRow.holds Try.pinned (OpenSpec.ofChange writtenWrong)

/-- 'remakekeep.Round': WHATEVER THE INPUT: true; the input reads as it did. -/
def roundSpec : ChangeSpec := { name := "round", fn := fun _ => fun
  | [d1, d2, d3] => { results := [.lit (.bool true)], args := [d1, d2, d3] }
  | _ => none }
def roundRow : OpenClaim := { program := "ytbgilndohccicab", sum := "37c4b3feb5040413a6cd41ae3c6a04152e4bf0dfc6e0b5c0d54c5459434636b4", func := "remake/remakekeep.Round", spec := "round", apart := false }
def RoundSaid : Prop := roundRow.holds Try.pinned (OpenSpec.ofChange roundSpec)

/-- ITS FALSE NEIGHBOUR: 'it returns false'. Refute it at one input. -/
def roundWrong : ChangeSpec := { name := "round", fn := fun _ => fun
  | [d1, d2, d3] => { results := [.lit (.bool false)], args := [d1, d2, d3] }
  | _ => none }
def RoundWrongFalsely : Prop := roundRow.holds Try.pinned (OpenSpec.ofChange roundWrong)

/-- 'remakekeep.Reckoned': WHATEVER THE INPUT: true; the input reads as it did. -/
def reckonedSpec : ChangeSpec := { name := "reckoned", fn := fun _ => fun
  | [d1, d2, d3] => { results := [.lit (.bool true)], args := [d1, d2, d3] }
  | _ => none }
def reckonedRow : OpenClaim := { program := "ytbgilndohccicab", sum := "37c4b3feb5040413a6cd41ae3c6a04152e4bf0dfc6e0b5c0d54c5459434636b4", func := "remake/remakekeep.Reckoned", spec := "reckoned", recurses := true, apart := false }
def ReckonedSaid : Prop := reckonedRow.holds Try.pinned (OpenSpec.ofChange reckonedSpec)

/-- ITS FALSE NEIGHBOUR: 'it returns false'. Refute it at one input. -/
def reckonedWrong : ChangeSpec := { name := "reckoned", fn := fun _ => fun
  | [d1, d2, d3] => { results := [.lit (.bool false)], args := [d1, d2, d3] }
  | _ => none }
def ReckonedWrongFalsely : Prop := reckonedRow.holds Try.pinned (OpenSpec.ofChange reckonedWrong)

/-- 'remakekeep.Meanwhile': WHATEVER THE INPUT: true; the input reads as it did. -/
def meanwhileSpec : ChangeSpec := { name := "meanwhile", fn := fun _ => fun
  | [d1, d2, d3, d4, d5, d6] => { results := [.lit (.bool true)], args := [d1, d2, d3, d4, d5, d6] }
  | _ => none }
def meanwhileRow : OpenClaim := { program := "ytbgilndohccicab", sum := "37c4b3feb5040413a6cd41ae3c6a04152e4bf0dfc6e0b5c0d54c5459434636b4", func := "remake/remakekeep.Meanwhile", spec := "meanwhile", recurses := true, apart := false }
def MeanwhileSaid : Prop := meanwhileRow.holds Try.pinned (OpenSpec.ofChange meanwhileSpec)

/-- ITS FALSE NEIGHBOUR: 'it returns false'. Refute it at one input. -/
def meanwhileWrong : ChangeSpec := { name := "meanwhile", fn := fun _ => fun
  | [d1, d2, d3, d4, d5, d6] => { results := [.lit (.bool false)], args := [d1, d2, d3, d4, d5, d6] }
  | _ => none }
def MeanwhileWrongFalsely : Prop := meanwhileRow.holds Try.pinned (OpenSpec.ofChange meanwhileWrong)

/- THE SECOND FORM. 'bulk': how many values and letters a reading holds, each counted each time it is reached (what is shared counts as often as it is met; a slice's spare places count too). A statement '..UptoSaid' is the law's where the arguments, and the package variables that the reading takes, are together of bulk at most 1048576: NARROWER than '..Said'. Prove '..Said' where nothing that the law and all that it calls make is longer than what came in: it says more and counts as full. Else prove '..UptoSaid'. A law counts once. -/
mutual
def uptoBulk {H : Type} : DataW H → Nat
  | .lit (.string bytes) => bytes.length + 1
  | .lit _ => 1
  | .nil => 1
  | .ptr d => uptoBulk d + 1
  | .slice elems spare => uptoBulkAll elems + uptoBulkAll spare + 1
  | .agg parts => uptoBulkAll parts + 1
  | .iface _ d => uptoBulk d + 1
  | .map entries => uptoBulkEntries entries + 1
  | .held _ => 1
def uptoBulkAll {H : Type} : List (DataW H) → Nat
  | [] => 0
  | d :: r => uptoBulk d + uptoBulkAll r
def uptoBulkEntries {H : Type} : List (Lit × DataW H) → Nat
  | [] => 0
  | x :: r => uptoBulkEntry x + uptoBulkEntries r
def uptoBulkEntry {H : Type} : Lit × DataW H → Nat
  | (.string bytes, d) => bytes.length + uptoBulk d + 1
  | (_, d) => uptoBulk d + 1
 end
def uptoSmall : (H : Type) → List (DataW H) → Bool := fun _ ds => decide (uptoBulkAll ds ≤ 1048576)
def OpenSpec.upto (s : _root_.Go.ChangeSpec) : _root_.Go.OpenSpec := { _root_.Go.OpenSpec.ofChange s with cond := some uptoSmall }

/-- 'remakekeep.Written', WHERE WHAT IT READS IS OF BULK AT MOST 1048576: true; the input reads as it did. -/
def writtenUptoRow : OpenClaim := { program := "ytbgilndohccicab", sum := "37c4b3feb5040413a6cd41ae3c6a04152e4bf0dfc6e0b5c0d54c5459434636b4", func := "remake/remakekeep.Written", spec := "written", recurses := true, apart := false, narrowed := true }
def WrittenUptoSaid : Prop := writtenUptoRow.holds Try.pinned (OpenSpec.upto writtenSpec)

/-- 'remakekeep.Round', WHERE WHAT IT READS IS OF BULK AT MOST 1048576: true; the input reads as it did. -/
def roundUptoRow : OpenClaim := { program := "ytbgilndohccicab", sum := "37c4b3feb5040413a6cd41ae3c6a04152e4bf0dfc6e0b5c0d54c5459434636b4", func := "remake/remakekeep.Round", spec := "round", apart := false, narrowed := true }
def RoundUptoSaid : Prop := roundUptoRow.holds Try.pinned (OpenSpec.upto roundSpec)

/-- 'remakekeep.Reckoned', WHERE WHAT IT READS IS OF BULK AT MOST 1048576: true; the input reads as it did. -/
def reckonedUptoRow : OpenClaim := { program := "ytbgilndohccicab", sum := "37c4b3feb5040413a6cd41ae3c6a04152e4bf0dfc6e0b5c0d54c5459434636b4", func := "remake/remakekeep.Reckoned", spec := "reckoned", recurses := true, apart := false, narrowed := true }
def ReckonedUptoSaid : Prop := reckonedUptoRow.holds Try.pinned (OpenSpec.upto reckonedSpec)

/-- 'remakekeep.Meanwhile', WHERE WHAT IT READS IS OF BULK AT MOST 1048576: true; the input reads as it did. -/
def meanwhileUptoRow : OpenClaim := { program := "ytbgilndohccicab", sum := "37c4b3feb5040413a6cd41ae3c6a04152e4bf0dfc6e0b5c0d54c5459434636b4", func := "remake/remakekeep.Meanwhile", spec := "meanwhile", recurses := true, apart := false, narrowed := true }
def MeanwhileUptoSaid : Prop := meanwhileUptoRow.holds Try.pinned (OpenSpec.upto meanwhileSpec)

end Rows
end Go.Proofs.Ytbgilndohccicab
