/-
  No cell of these rows narrows 'for every input' (looked for: loops, veiled, ifaces, maps, wideKeys, modest, calm, conditions, laid).
  DERIVED. THE GIVEN ROWS OF THIS SEAT. 3 by the template 'for every input the law returns true; each argument reads behind the call as it read before'; 0 by the template 'total and deterministic' (their statements: YtjjmcnippjpclabTotals.lean).
  GIVEN WITH THE SEED: the statements are not yours to turn. If you find one false, say at which input.
  Laid BY PROGRAM, IN A SANDBOX (cutbox-rows.mjs): the forced cells as the released guide's own fill.sh prints them over the translation 3b48320ac412208e… (all of the seat's roots in one cut). By AI agents, Wed Nov 11 2026. No macro, syntax, notation, axiom, sorry.
-/
import Derived.Test.YtjjmcnippjpclabChecked
import GoSem.Claim
import GoSem.ClaimJoined
import GoSem.ClaimMapViews
import Derived.JoinedTies
import Derived.KernelRfl
namespace Go.Proofs.Ytjjmcnippjpclab
/- THE CELL 'sum', in the pinned program and in every row, IS THE sha256 OF THE DUMP (.gsa) THAT YtjjmcnippjpclabProg.lean LOADS. Nothing in Lean hashes anything: it is a label: what it is worth is what the hold of that sum in a sandbox is worth. -/
noncomputable def Try.pinned : Pinned := { name := "ytjjmcnippjpclab", sum := "3b48320ac412208eca5b449d99fd1040a27e83fb04a4a4c875b783cb237c7d29", checked := Try.checked }
namespace Rows
def none {H : Type} : Left H := { results := [], args := [] }

/-- 'tailorkeep.Placed': WHATEVER THE INPUT: true; the input reads as it did. -/
def placedSpec : ChangeSpec := { name := "placed", fn := fun _ => fun
  | [d1, d2] => { results := [.lit (.bool true)], args := [d1, d2] }
  | _ => none }
def placedRow : OpenClaim := { program := "ytjjmcnippjpclab", sum := "3b48320ac412208eca5b449d99fd1040a27e83fb04a4a4c875b783cb237c7d29", func := "tailor/tailorkeep.Placed", spec := "placed", inPlace := ["internal/abi.NoEscape"], unfollowed := true, recurses := true, apart := false }
def PlacedSaid : Prop := placedRow.holds Try.pinned (OpenSpec.ofChange placedSpec)

/-- ITS FALSE NEIGHBOUR: 'it returns false'. Refute it at one input. -/
def placedWrong : ChangeSpec := { name := "placed", fn := fun _ => fun
  | [d1, d2] => { results := [.lit (.bool false)], args := [d1, d2] }
  | _ => none }
def PlacedWrongFalsely : Prop := placedRow.holds Try.pinned (OpenSpec.ofChange placedWrong)

/-- 'tailorkeep.Survives': WHATEVER THE INPUT: true; the input reads as it did. -/
def survivesSpec : ChangeSpec := { name := "survives", fn := fun _ => fun
  | [d1, d2, d3, d4] => { results := [.lit (.bool true)], args := [d1, d2, d3, d4] }
  | _ => none }
def survivesRow : OpenClaim := { program := "ytjjmcnippjpclab", sum := "3b48320ac412208eca5b449d99fd1040a27e83fb04a4a4c875b783cb237c7d29", func := "tailor/tailorkeep.Survives", spec := "survives", inPlace := ["internal/abi.NoEscape"], unfollowed := true, recurses := true, apart := false }
def SurvivesSaid : Prop := survivesRow.holds Try.pinned (OpenSpec.ofChange survivesSpec)

/-- ITS FALSE NEIGHBOUR: 'it returns false'. Refute it at one input. -/
def survivesWrong : ChangeSpec := { name := "survives", fn := fun _ => fun
  | [d1, d2, d3, d4] => { results := [.lit (.bool false)], args := [d1, d2, d3, d4] }
  | _ => none }
def SurvivesWrongFalsely : Prop := survivesRow.holds Try.pinned (OpenSpec.ofChange survivesWrong)

/-- 'tailorkeep.Chained': WHATEVER THE INPUT: true; the input reads as it did. -/
def chainedSpec : ChangeSpec := { name := "chained", fn := fun _ => fun
  | [d1, d2, d3, d4, d5] => { results := [.lit (.bool true)], args := [d1, d2, d3, d4, d5] }
  | _ => none }
def chainedRow : OpenClaim := { program := "ytjjmcnippjpclab", sum := "3b48320ac412208eca5b449d99fd1040a27e83fb04a4a4c875b783cb237c7d29", func := "tailor/tailorkeep.Chained", spec := "chained", inPlace := ["internal/abi.NoEscape"], unfollowed := true, recurses := true, apart := false }
def ChainedSaid : Prop := chainedRow.holds Try.pinned (OpenSpec.ofChange chainedSpec)

/-- ITS FALSE NEIGHBOUR: 'it returns false'. Refute it at one input. -/
def chainedWrong : ChangeSpec := { name := "chained", fn := fun _ => fun
  | [d1, d2, d3, d4, d5] => { results := [.lit (.bool false)], args := [d1, d2, d3, d4, d5] }
  | _ => none }
def ChainedWrongFalsely : Prop := chainedRow.holds Try.pinned (OpenSpec.ofChange chainedWrong)

/- THE SECOND FORM. 'bulk': how many values and letters a reading holds, each counted each time it is reached (what is shared counts as often as it is met; a slice's spare places count too). A statement '..UptoSaid' is the law's where the arguments, and the package variables that the reading takes, are together of bulk at most 1048576: NARROWER than '..Said'. Prove '..Said' where nothing that the law and all that it calls make is longer than what came in: it says more and counts as full. Else prove '..UptoSaid'. A law counts once. -/
mutual
def uptoBulk {H : Type} : DataW H → Nat
  | .lit (.string bytes) => bytes.length + 1
  | .lit _ => 1
  | .nil => 1
  | .ptr d => uptoBulk d + 1
  | .slice elems spare => uptoBulkAll elems + uptoBulkAll spare + 1
  | .agg parts => uptoBulkAll parts + 1
  | .iface _ d => uptoBulk d + 1
  | .map entries => uptoBulkEntries entries + 1
  | .held _ => 1
def uptoBulkAll {H : Type} : List (DataW H) → Nat
  | [] => 0
  | d :: r => uptoBulk d + uptoBulkAll r
def uptoBulkEntries {H : Type} : List (Lit × DataW H) → Nat
  | [] => 0
  | x :: r => uptoBulkEntry x + uptoBulkEntries r
def uptoBulkEntry {H : Type} : Lit × DataW H → Nat
  | (.string bytes, d) => bytes.length + uptoBulk d + 1
  | (_, d) => uptoBulk d + 1
 end
def uptoSmall : (H : Type) → List (DataW H) → Bool := fun _ ds => decide (uptoBulkAll ds ≤ 1048576)
def OpenSpec.upto (s : _root_.Go.ChangeSpec) : _root_.Go.OpenSpec := { _root_.Go.OpenSpec.ofChange s with cond := some uptoSmall }

/-- 'tailorkeep.Placed', WHERE WHAT IT READS IS OF BULK AT MOST 1048576: true; the input reads as it did. -/
def placedUptoRow : OpenClaim := { program := "ytjjmcnippjpclab", sum := "3b48320ac412208eca5b449d99fd1040a27e83fb04a4a4c875b783cb237c7d29", func := "tailor/tailorkeep.Placed", spec := "placed", inPlace := ["internal/abi.NoEscape"], unfollowed := true, recurses := true, apart := false, narrowed := true }
def PlacedUptoSaid : Prop := placedUptoRow.holds Try.pinned (OpenSpec.upto placedSpec)

/-- 'tailorkeep.Survives', WHERE WHAT IT READS IS OF BULK AT MOST 1048576: true; the input reads as it did. -/
def survivesUptoRow : OpenClaim := { program := "ytjjmcnippjpclab", sum := "3b48320ac412208eca5b449d99fd1040a27e83fb04a4a4c875b783cb237c7d29", func := "tailor/tailorkeep.Survives", spec := "survives", inPlace := ["internal/abi.NoEscape"], unfollowed := true, recurses := true, apart := false, narrowed := true }
def SurvivesUptoSaid : Prop := survivesUptoRow.holds Try.pinned (OpenSpec.upto survivesSpec)

/-- 'tailorkeep.Chained', WHERE WHAT IT READS IS OF BULK AT MOST 1048576: true; the input reads as it did. -/
def chainedUptoRow : OpenClaim := { program := "ytjjmcnippjpclab", sum := "3b48320ac412208eca5b449d99fd1040a27e83fb04a4a4c875b783cb237c7d29", func := "tailor/tailorkeep.Chained", spec := "chained", inPlace := ["internal/abi.NoEscape"], unfollowed := true, recurses := true, apart := false, narrowed := true }
def ChainedUptoSaid : Prop := chainedUptoRow.holds Try.pinned (OpenSpec.upto chainedSpec)

end Rows
end Go.Proofs.Ytjjmcnippjpclab
