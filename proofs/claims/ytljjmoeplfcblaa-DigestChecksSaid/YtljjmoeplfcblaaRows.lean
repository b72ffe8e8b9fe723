/-
  No cell of these rows narrows 'for every input' (looked for: loops, veiled, ifaces, maps, wideKeys, modest, calm, conditions, laid).
  DERIVED. THE GIVEN ROWS OF THIS SEAT. 7 by the template 'for every input the law returns true; each argument reads behind the call as it read before'; 0 by the template 'total and deterministic' (their statements: YtljjmoeplfcblaaTotals.lean).
  GIVEN WITH THE SEED: the statements are not yours to turn. If you find one false, say at which input.
  Laid BY PROGRAM, IN A SANDBOX (cutbox-rows.mjs): the forced cells as the released guide's own fill.sh prints them over the translation e30d2ddcc3410329… (all of the seat's roots in one cut). By AI agents, Wed Nov 11 2026. No macro, syntax, notation, axiom, sorry.
-/
import Derived.Test.YtljjmoeplfcblaaChecked
import GoSem.Claim
import GoSem.ClaimJoined
import GoSem.ClaimMapViews
import Derived.JoinedTies
import Derived.KernelRfl
namespace Go.Proofs.Ytljjmoeplfcblaa
/- THE CELL 'sum', in the pinned program and in every row, IS THE sha256 OF THE DUMP (.gsa) THAT YtljjmoeplfcblaaProg.lean LOADS. Nothing in Lean hashes anything: it is a label: what it is worth is what the hold of that sum in a sandbox is worth. -/
noncomputable def Try.pinned : Pinned := { name := "ytljjmoeplfcblaa", sum := "e30d2ddcc3410329d6db349de4fbbcb6a8b4611ac576b8e462567c29491d81a5", checked := Try.checked }
namespace Rows
def none {H : Type} : Left H := { results := [], args := [] }

/-- 'quadriviumlaw02.DigestOf': WHATEVER THE INPUT: true; the input reads as it did. -/
def digestOfSpec : ChangeSpec := { name := "digestOf", fn := fun _ => fun
  | [d1, d2, d3] => { results := [.lit (.bool true)], args := [d1, d2, d3] }
  | _ => none }
def digestOfRow : OpenClaim := { program := "ytljjmoeplfcblaa", sum := "e30d2ddcc3410329d6db349de4fbbcb6a8b4611ac576b8e462567c29491d81a5", func := "quadrivium/quadriviumlaw02.DigestOf", spec := "digestOf", unfollowed := true, recurses := true, apart := false }
def DigestOfSaid : Prop := digestOfRow.holds Try.pinned (OpenSpec.ofChange digestOfSpec)

/-- ITS FALSE NEIGHBOUR: 'it returns false'. Refute it at one input. -/
def digestOfWrong : ChangeSpec := { name := "digestOf", fn := fun _ => fun
  | [d1, d2, d3] => { results := [.lit (.bool false)], args := [d1, d2, d3] }
  | _ => none }
def DigestOfWrongFalsely : Prop := digestOfRow.holds Try.pinned (OpenSpec.ofChange digestOfWrong)

/-- 'quadriviumlaw02.DigestOne': WHATEVER THE INPUT: true; the input reads as it did. -/
def digestOneSpec : ChangeSpec := { name := "digestOne", fn := fun _ => fun
  | [d1, d2, d3] => { results := [.lit (.bool true)], args := [d1, d2, d3] }
  | _ => none }
def digestOneRow : OpenClaim := { program := "ytljjmoeplfcblaa", sum := "e30d2ddcc3410329d6db349de4fbbcb6a8b4611ac576b8e462567c29491d81a5", func := "quadrivium/quadriviumlaw02.DigestOne", spec := "digestOne", unfollowed := true, recurses := true, apart := false }
def DigestOneSaid : Prop := digestOneRow.holds Try.pinned (OpenSpec.ofChange digestOneSpec)

/-- ITS FALSE NEIGHBOUR: 'it returns false'. Refute it at one input. -/
def digestOneWrong : ChangeSpec := { name := "digestOne", fn := fun _ => fun
  | [d1, d2, d3] => { results := [.lit (.bool false)], args := [d1, d2, d3] }
  | _ => none }
def DigestOneWrongFalsely : Prop := digestOneRow.holds Try.pinned (OpenSpec.ofChange digestOneWrong)

/-- 'quadriviumlaw02.DigestProofs': WHATEVER THE INPUT: true; the input reads as it did. -/
def digestProofsSpec : ChangeSpec := { name := "digestProofs", fn := fun _ => fun
  | [d1, d2, d3] => { results := [.lit (.bool true)], args := [d1, d2, d3] }
  | _ => none }
def digestProofsRow : OpenClaim := { program := "ytljjmoeplfcblaa", sum := "e30d2ddcc3410329d6db349de4fbbcb6a8b4611ac576b8e462567c29491d81a5", func := "quadrivium/quadriviumlaw02.DigestProofs", spec := "digestProofs", unfollowed := true, recurses := true, apart := false }
def DigestProofsSaid : Prop := digestProofsRow.holds Try.pinned (OpenSpec.ofChange digestProofsSpec)

/-- ITS FALSE NEIGHBOUR: 'it returns false'. Refute it at one input. -/
def digestProofsWrong : ChangeSpec := { name := "digestProofs", fn := fun _ => fun
  | [d1, d2, d3] => { results := [.lit (.bool false)], args := [d1, d2, d3] }
  | _ => none }
def DigestProofsWrongFalsely : Prop := digestProofsRow.holds Try.pinned (OpenSpec.ofChange digestProofsWrong)

/-- 'quadriviumlaw02.DigestChecks': WHATEVER THE INPUT: true; the input reads as it did. -/
def digestChecksSpec : ChangeSpec := { name := "digestChecks", fn := fun _ => fun
  | [d1, d2, d3] => { results := [.lit (.bool true)], args := [d1, d2, d3] }
  | _ => none }
def digestChecksRow : OpenClaim := { program := "ytljjmoeplfcblaa", sum := "e30d2ddcc3410329d6db349de4fbbcb6a8b4611ac576b8e462567c29491d81a5", func := "quadrivium/quadriviumlaw02.DigestChecks", spec := "digestChecks", unfollowed := true, recurses := true, apart := false }
def DigestChecksSaid : Prop := digestChecksRow.holds Try.pinned (OpenSpec.ofChange digestChecksSpec)

/-- ITS FALSE NEIGHBOUR: 'it returns false'. Refute it at one input. -/
def digestChecksWrong : ChangeSpec := { name := "digestChecks", fn := fun _ => fun
  | [d1, d2, d3] => { results := [.lit (.bool false)], args := [d1, d2, d3] }
  | _ => none }
def DigestChecksWrongFalsely : Prop := digestChecksRow.holds Try.pinned (OpenSpec.ofChange digestChecksWrong)

/-- 'quadriviumlaw02.DigestSounds': WHATEVER THE INPUT: true; the input reads as it did. -/
def digestSoundsSpec : ChangeSpec := { name := "digestSounds", fn := fun _ => fun
  | [d1, d2] => { results := [.lit (.bool true)], args := [d1, d2] }
  | _ => none }
def digestSoundsRow : OpenClaim := { program := "ytljjmoeplfcblaa", sum := "e30d2ddcc3410329d6db349de4fbbcb6a8b4611ac576b8e462567c29491d81a5", func := "quadrivium/quadriviumlaw02.DigestSounds", spec := "digestSounds", unfollowed := true, recurses := true, apart := false }
def DigestSoundsSaid : Prop := digestSoundsRow.holds Try.pinned (OpenSpec.ofChange digestSoundsSpec)

/-- ITS FALSE NEIGHBOUR: 'it returns false'. Refute it at one input. -/
def digestSoundsWrong : ChangeSpec := { name := "digestSounds", fn := fun _ => fun
  | [d1, d2] => { results := [.lit (.bool false)], args := [d1, d2] }
  | _ => none }
def DigestSoundsWrongFalsely : Prop := digestSoundsRow.holds Try.pinned (OpenSpec.ofChange digestSoundsWrong)

/-- 'quadriviumlaw02.DigestGrows': WHATEVER THE INPUT: true; the input reads as it did. -/
def digestGrowsSpec : ChangeSpec := { name := "digestGrows", fn := fun _ => fun
  | [d1, d2, d3] => { results := [.lit (.bool true)], args := [d1, d2, d3] }
  | _ => none }
def digestGrowsRow : OpenClaim := { program := "ytljjmoeplfcblaa", sum := "e30d2ddcc3410329d6db349de4fbbcb6a8b4611ac576b8e462567c29491d81a5", func := "quadrivium/quadriviumlaw02.DigestGrows", spec := "digestGrows", unfollowed := true, recurses := true, apart := false }
def DigestGrowsSaid : Prop := digestGrowsRow.holds Try.pinned (OpenSpec.ofChange digestGrowsSpec)

/-- ITS FALSE NEIGHBOUR: 'it returns false'. Refute it at one input. -/
def digestGrowsWrong : ChangeSpec := { name := "digestGrows", fn := fun _ => fun
  | [d1, d2, d3] => { results := [.lit (.bool false)], args := [d1, d2, d3] }
  | _ => none }
def DigestGrowsWrongFalsely : Prop := digestGrowsRow.holds Try.pinned (OpenSpec.ofChange digestGrowsWrong)

/-- 'quadriviumlaw02.DigestBetween': WHATEVER THE INPUT: true; the input reads as it did. -/
def digestBetweenSpec : ChangeSpec := { name := "digestBetween", fn := fun _ => fun
  | [d1, d2, d3] => { results := [.lit (.bool true)], args := [d1, d2, d3] }
  | _ => none }
def digestBetweenRow : OpenClaim := { program := "ytljjmoeplfcblaa", sum := "e30d2ddcc3410329d6db349de4fbbcb6a8b4611ac576b8e462567c29491d81a5", func := "quadrivium/quadriviumlaw02.DigestBetween", spec := "digestBetween", unfollowed := true, recurses := true, apart := false }
def DigestBetweenSaid : Prop := digestBetweenRow.holds Try.pinned (OpenSpec.ofChange digestBetweenSpec)

/-- ITS FALSE NEIGHBOUR: 'it returns false'. Refute it at one input. -/
def digestBetweenWrong : ChangeSpec := { name := "digestBetween", fn := fun _ => fun
  | [d1, d2, d3] => { results := [.lit (.bool false)], args := [d1, d2, d3] }
  | _ => none }
def DigestBetweenWrongFalsely : Prop := digestBetweenRow.holds Try.pinned (OpenSpec.ofChange digestBetweenWrong)

/- THE SECOND FORM. 'bulk': how many values and letters a reading holds, each counted each time it is reached (what is shared counts as often as it is met; a slice's spare places count too). A statement '..UptoSaid' is the law's where the arguments, and the package variables that the reading takes, are together of bulk at most 1048576: NARROWER than '..Said'. Prove '..Said' where nothing that the law and all that it calls make is longer than what came in: it says more and counts as full. Else prove '..UptoSaid'. A law counts once. -/
mutual
def uptoBulk {H : Type} : DataW H → Nat
  | .lit (.string bytes) => bytes.length + 1
  | .lit _ => 1
  | .nil => 1
  | .ptr d => uptoBulk d + 1
  | .slice elems spare => uptoBulkAll elems + uptoBulkAll spare + 1
  | .agg parts => uptoBulkAll parts + 1
  | .iface _ d => uptoBulk d + 1
  | .map entries => uptoBulkEntries entries + 1
  | .held _ => 1
def uptoBulkAll {H : Type} : List (DataW H) → Nat
  | [] => 0
  | d :: r => uptoBulk d + uptoBulkAll r
def uptoBulkEntries {H : Type} : List (Lit × DataW H) → Nat
  | [] => 0
  | x :: r => uptoBulkEntry x + uptoBulkEntries r
def uptoBulkEntry {H : Type} : Lit × DataW H → Nat
  | (.string bytes, d) => bytes.length + uptoBulk d + 1
  | (_, d) => uptoBulk d + 1
 end
def uptoSmall : (H : Type) → List (DataW H) → Bool := fun _ ds => decide (uptoBulkAll ds ≤ 1048576)
def OpenSpec.upto (s : _root_.Go.ChangeSpec) : _root_.Go.OpenSpec := { _root_.Go.OpenSpec.ofChange s with cond := some uptoSmall }

/-- 'quadriviumlaw02.DigestOf', WHERE WHAT IT READS IS OF BULK AT MOST 1048576: true; the input reads as it did. -/
def digestOfUptoRow : OpenClaim := { program := "ytljjmoeplfcblaa", sum := "e30d2ddcc3410329d6db349de4fbbcb6a8b4611ac576b8e462567c29491d81a5", func := "quadrivium/quadriviumlaw02.DigestOf", spec := "digestOf", unfollowed := true, recurses := true, apart := false, narrowed := true }
def DigestOfUptoSaid : Prop := digestOfUptoRow.holds Try.pinned (OpenSpec.upto digestOfSpec)

/-- 'quadriviumlaw02.DigestOne', WHERE WHAT IT READS IS OF BULK AT MOST 1048576: true; the input reads as it did. -/
def digestOneUptoRow : OpenClaim := { program := "ytljjmoeplfcblaa", sum := "e30d2ddcc3410329d6db349de4fbbcb6a8b4611ac576b8e462567c29491d81a5", func := "quadrivium/quadriviumlaw02.DigestOne", spec := "digestOne", unfollowed := true, recurses := true, apart := false, narrowed := true }
def DigestOneUptoSaid : Prop := digestOneUptoRow.holds Try.pinned (OpenSpec.upto digestOneSpec)

/-- 'quadriviumlaw02.DigestProofs', WHERE WHAT IT READS IS OF BULK AT MOST 1048576: true; the input reads as it did. -/
def digestProofsUptoRow : OpenClaim := { program := "ytljjmoeplfcblaa", sum := "e30d2ddcc3410329d6db349de4fbbcb6a8b4611ac576b8e462567c29491d81a5", func := "quadrivium/quadriviumlaw02.DigestProofs", spec := "digestProofs", unfollowed := true, recurses := true, apart := false, narrowed := true }
def DigestProofsUptoSaid : Prop := digestProofsUptoRow.holds Try.pinned (OpenSpec.upto digestProofsSpec)

/-- 'quadriviumlaw02.DigestChecks', WHERE WHAT IT READS IS OF BULK AT MOST 1048576: true; the input reads as it did. -/
def digestChecksUptoRow : OpenClaim := { program := "ytljjmoeplfcblaa", sum := "e30d2ddcc3410329d6db349de4fbbcb6a8b4611ac576b8e462567c29491d81a5", func := "quadrivium/quadriviumlaw02.DigestChecks", spec := "digestChecks", unfollowed := true, recurses := true, apart := false, narrowed := true }
def DigestChecksUptoSaid : Prop := digestChecksUptoRow.holds Try.pinned (OpenSpec.upto digestChecksSpec)

/-- 'quadriviumlaw02.DigestSounds', WHERE WHAT IT READS IS OF BULK AT MOST 1048576: true; the input reads as it did. -/
def digestSoundsUptoRow : OpenClaim := { program := "ytljjmoeplfcblaa", sum := "e30d2ddcc3410329d6db349de4fbbcb6a8b4611ac576b8e462567c29491d81a5", func := "quadrivium/quadriviumlaw02.DigestSounds", spec := "digestSounds", unfollowed := true, recurses := true, apart := false, narrowed := true }
def DigestSoundsUptoSaid : Prop := digestSoundsUptoRow.holds Try.pinned (OpenSpec.upto digestSoundsSpec)

/-- 'quadriviumlaw02.DigestGrows', WHERE WHAT IT READS IS OF BULK AT MOST 1048576: true; the input reads as it did. -/
def digestGrowsUptoRow : OpenClaim := { program := "ytljjmoeplfcblaa", sum := "e30d2ddcc3410329d6db349de4fbbcb6a8b4611ac576b8e462567c29491d81a5", func := "quadrivium/quadriviumlaw02.DigestGrows", spec := "digestGrows", unfollowed := true, recurses := true, apart := false, narrowed := true }
def DigestGrowsUptoSaid : Prop := digestGrowsUptoRow.holds Try.pinned (OpenSpec.upto digestGrowsSpec)

/-- 'quadriviumlaw02.DigestBetween', WHERE WHAT IT READS IS OF BULK AT MOST 1048576: true; the input reads as it did. -/
def digestBetweenUptoRow : OpenClaim := { program := "ytljjmoeplfcblaa", sum := "e30d2ddcc3410329d6db349de4fbbcb6a8b4611ac576b8e462567c29491d81a5", func := "quadrivium/quadriviumlaw02.DigestBetween", spec := "digestBetween", unfollowed := true, recurses := true, apart := false, narrowed := true }
def DigestBetweenUptoSaid : Prop := digestBetweenUptoRow.holds Try.pinned (OpenSpec.upto digestBetweenSpec)

end Rows
end Go.Proofs.Ytljjmoeplfcblaa
