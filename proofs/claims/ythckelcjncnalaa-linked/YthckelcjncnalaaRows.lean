/-
  No cell of these rows narrows 'for every input' (looked for: loops, veiled, ifaces, maps, wideKeys, modest, calm, conditions, laid).
  DERIVED. THE GIVEN ROWS OF THIS SEAT. 4 by the template 'for every input the law returns true; each argument reads behind the call as it read before'; 0 by the template 'total and deterministic' (their statements: YthckelcjncnalaaTotals.lean).
  GIVEN WITH THE SEED: the statements are not yours to turn. If you find one false, say at which input.
  Laid BY PROGRAM, IN A SANDBOX (cutbox-rows.mjs): the forced cells as the released guide's own fill.sh prints them over the translation cf94a2d04dbd8994… (all of the seat's roots in one cut). By AI agents, Wed Nov 11 2026. No macro, syntax, notation, axiom, sorry.
-/
import Derived.Test.YthckelcjncnalaaChecked
import GoSem.Claim
import GoSem.ClaimJoined
import GoSem.ClaimMapViews
import Derived.JoinedTies
import Derived.KernelRfl
namespace Go.Proofs.Ythckelcjncnalaa
/- THE CELL 'sum', in the pinned program and in every row, IS THE sha256 OF THE DUMP (.gsa) THAT YthckelcjncnalaaProg.lean LOADS. Nothing in Lean hashes anything: it is a label: what it is worth is what the hold of that sum in a sandbox is worth. -/
noncomputable def Try.pinned : Pinned := { name := "ythckelcjncnalaa", sum := "cf94a2d04dbd8994395811c5c26d011aa1012793428e6c08acc138991be10d12", checked := Try.checked }
namespace Rows
def none {H : Type} : Left H := { results := [], args := [] }

/-- 'remakelaw.Packs': WHATEVER THE INPUT: true; the input reads as it did. -/
def packsSpec : ChangeSpec := { name := "packs", fn := fun _ => fun
  | [d] => { results := [.lit (.bool true)], args := [d] }
  | _ => none }
def packsRow : OpenClaim := { program := "ythckelcjncnalaa", sum := "cf94a2d04dbd8994395811c5c26d011aa1012793428e6c08acc138991be10d12", func := "remake/remakelaw.Packs", spec := "packs", apart := false }
def PacksSaid : Prop := packsRow.holds Try.pinned (OpenSpec.ofChange packsSpec)

/-- ITS FALSE NEIGHBOUR: 'it returns false'. Refute it at one input. -/
def packsWrong : ChangeSpec := { name := "packs", fn := fun _ => fun
  | [d] => { results := [.lit (.bool false)], args := [d] }
  | _ => none }
def PacksWrongFalsely : Prop := packsRow.holds Try.pinned (OpenSpec.ofChange packsWrong)

/-- 'remakelaw.Unpacks': WHATEVER THE INPUT: true; the input reads as it did. -/
def unpacksSpec : ChangeSpec := { name := "unpacks", fn := fun _ => fun
  | [d] => { results := [.lit (.bool true)], args := [d] }
  | _ => none }
def unpacksRow : OpenClaim := { program := "ythckelcjncnalaa", sum := "cf94a2d04dbd8994395811c5c26d011aa1012793428e6c08acc138991be10d12", func := "remake/remakelaw.Unpacks", spec := "unpacks", apart := false }
def UnpacksSaid : Prop := unpacksRow.holds Try.pinned (OpenSpec.ofChange unpacksSpec)

/-- ITS FALSE NEIGHBOUR: 'it returns false'. Refute it at one input. -/
def unpacksWrong : ChangeSpec := { name := "unpacks", fn := fun _ => fun
  | [d] => { results := [.lit (.bool false)], args := [d] }
  | _ => none }
def UnpacksWrongFalsely : Prop := unpacksRow.holds Try.pinned (OpenSpec.ofChange unpacksWrong)

/-- 'remakekeep.Linked': WHATEVER THE INPUT: true; the input reads as it did. -/
def linkedSpec : ChangeSpec := { name := "linked", fn := fun _ => fun
  | [d1, d2] => { results := [.lit (.bool true)], args := [d1, d2] }
  | _ => none }
def linkedRow : OpenClaim := { program := "ythckelcjncnalaa", sum := "cf94a2d04dbd8994395811c5c26d011aa1012793428e6c08acc138991be10d12", func := "remake/remakekeep.Linked", spec := "linked", recurses := true, apart := false }
def LinkedSaid : Prop := linkedRow.holds Try.pinned (OpenSpec.ofChange linkedSpec)

/-- ITS FALSE NEIGHBOUR: 'it returns false'. Refute it at one input. -/
def linkedWrong : ChangeSpec := { name := "linked", fn := fun _ => fun
  | [d1, d2] => { results := [.lit (.bool false)], args := [d1, d2] }
  | _ => none }
def LinkedWrongFalsely : Prop := linkedRow.holds Try.pinned (OpenSpec.ofChange linkedWrong)

/-- 'remakekeep.Wraps': WHATEVER THE INPUT: true; the input reads as it did. -/
def wrapsSpec : ChangeSpec := { name := "wraps", fn := fun _ => fun
  | [d1, d2, d3, d4] => { results := [.lit (.bool true)], args := [d1, d2, d3, d4] }
  | _ => none }
def wrapsRow : OpenClaim := { program := "ythckelcjncnalaa", sum := "cf94a2d04dbd8994395811c5c26d011aa1012793428e6c08acc138991be10d12", func := "remake/remakekeep.Wraps", spec := "wraps", recurses := true, apart := false }
def WrapsSaid : Prop := wrapsRow.holds Try.pinned (OpenSpec.ofChange wrapsSpec)

/-- ITS FALSE NEIGHBOUR: 'it returns false'. Refute it at one input. -/
def wrapsWrong : ChangeSpec := { name := "wraps", fn := fun _ => fun
  | [d1, d2, d3, d4] => { results := [.lit (.bool false)], args := [d1, d2, d3, d4] }
  | _ => none }
def WrapsWrongFalsely : Prop := wrapsRow.holds Try.pinned (OpenSpec.ofChange wrapsWrong)

/- THE SECOND FORM. 'bulk': how many values and letters a reading holds, each counted each time it is reached (what is shared counts as often as it is met; a slice's spare places count too). A statement '..UptoSaid' is the law's where the arguments, and the package variables that the reading takes, are together of bulk at most 1048576: NARROWER than '..Said'. Prove '..Said' where nothing that the law and all that it calls make is longer than what came in: it says more and counts as full. Else prove '..UptoSaid'. A law counts once. -/
mutual
def uptoBulk {H : Type} : DataW H → Nat
  | .lit (.string bytes) => bytes.length + 1
  | .lit _ => 1
  | .nil => 1
  | .ptr d => uptoBulk d + 1
  | .slice elems spare => uptoBulkAll elems + uptoBulkAll spare + 1
  | .agg parts => uptoBulkAll parts + 1
  | .iface _ d => uptoBulk d + 1
  | .map entries => uptoBulkEntries entries + 1
  | .held _ => 1
def uptoBulkAll {H : Type} : List (DataW H) → Nat
  | [] => 0
  | d :: r => uptoBulk d + uptoBulkAll r
def uptoBulkEntries {H : Type} : List (Lit × DataW H) → Nat
  | [] => 0
  | x :: r => uptoBulkEntry x + uptoBulkEntries r
def uptoBulkEntry {H : Type} : Lit × DataW H → Nat
  | (.string bytes, d) => bytes.length + uptoBulk d + 1
  | (_, d) => uptoBulk d + 1
 end
def uptoSmall : (H : Type) → List (DataW H) → Bool := fun _ ds => decide (uptoBulkAll ds ≤ 1048576)
def OpenSpec.upto (s : _root_.Go.ChangeSpec) : _root_.Go.OpenSpec := { _root_.Go.OpenSpec.ofChange s with cond := some uptoSmall }

/-- 'remakelaw.Packs', WHERE WHAT IT READS IS OF BULK AT MOST 1048576: true; the input reads as it did. -/
def packsUptoRow : OpenClaim := { program := "ythckelcjncnalaa", sum := "cf94a2d04dbd8994395811c5c26d011aa1012793428e6c08acc138991be10d12", func := "remake/remakelaw.Packs", spec := "packs", apart := false, narrowed := true }
def PacksUptoSaid : Prop := packsUptoRow.holds Try.pinned (OpenSpec.upto packsSpec)

/-- 'remakelaw.Unpacks', WHERE WHAT IT READS IS OF BULK AT MOST 1048576: true; the input reads as it did. -/
def unpacksUptoRow : OpenClaim := { program := "ythckelcjncnalaa", sum := "cf94a2d04dbd8994395811c5c26d011aa1012793428e6c08acc138991be10d12", func := "remake/remakelaw.Unpacks", spec := "unpacks", apart := false, narrowed := true }
def UnpacksUptoSaid : Prop := unpacksUptoRow.holds Try.pinned (OpenSpec.upto unpacksSpec)

/-- 'remakekeep.Linked', WHERE WHAT IT READS IS OF BULK AT MOST 1048576: true; the input reads as it did. -/
def linkedUptoRow : OpenClaim := { program := "ythckelcjncnalaa", sum := "cf94a2d04dbd8994395811c5c26d011aa1012793428e6c08acc138991be10d12", func := "remake/remakekeep.Linked", spec := "linked", recurses := true, apart := false, narrowed := true }
def LinkedUptoSaid : Prop := linkedUptoRow.holds Try.pinned (OpenSpec.upto linkedSpec)

/-- 'remakekeep.Wraps', WHERE WHAT IT READS IS OF BULK AT MOST 1048576: true; the input reads as it did. -/
def wrapsUptoRow : OpenClaim := { program := "ythckelcjncnalaa", sum := "cf94a2d04dbd8994395811c5c26d011aa1012793428e6c08acc138991be10d12", func := "remake/remakekeep.Wraps", spec := "wraps", recurses := true, apart := false, narrowed := true }
def WrapsUptoSaid : Prop := wrapsUptoRow.holds Try.pinned (OpenSpec.upto wrapsSpec)

end Rows
end Go.Proofs.Ythckelcjncnalaa
