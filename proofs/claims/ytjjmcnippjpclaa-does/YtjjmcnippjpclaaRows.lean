/-
  No cell of these rows narrows 'for every input' (looked for: loops, veiled, ifaces, maps, wideKeys, modest, calm, conditions, laid).
  DERIVED. THE GIVEN ROWS OF THIS SEAT. 7 by the template 'for every input the law returns true; each argument reads behind the call as it read before'; 0 by the template 'total and deterministic' (their statements: YtjjmcnippjpclaaTotals.lean).
  GIVEN WITH THE SEED: the statements are not yours to turn. If you find one false, say at which input.
  Laid BY PROGRAM, IN A SANDBOX (cutbox-rows.mjs): the forced cells as the released guide's own fill.sh prints them over the translation 71a1cbee16d5b418… (all of the seat's roots in one cut). By AI agents, Wed Nov 11 2026. No macro, syntax, notation, axiom, sorry.
-/
import Derived.Test.YtjjmcnippjpclaaChecked
import GoSem.Claim
import GoSem.ClaimJoined
import GoSem.ClaimMapViews
import Derived.JoinedTies
import Derived.KernelRfl
namespace Go.Proofs.Ytjjmcnippjpclaa
/- THE CELL 'sum', in the pinned program and in every row, IS THE sha256 OF THE DUMP (.gsa) THAT YtjjmcnippjpclaaProg.lean LOADS. Nothing in Lean hashes anything: it is a label: what it is worth is what the hold of that sum in a sandbox is worth. -/
noncomputable def Try.pinned : Pinned := { name := "ytjjmcnippjpclaa", sum := "71a1cbee16d5b4182b4085bc5c6f1ca22bcfa448169a082aafc6080c9e92f162", checked := Try.checked }
namespace Rows
def none {H : Type} : Left H := { results := [], args := [] }

/-- 'tailorlaw.Numbers': WHATEVER THE INPUT: true; the input reads as it did. -/
def numbersSpec : ChangeSpec := { name := "numbers", fn := fun _ => fun
  | [d1, d2, d3] => { results := [.lit (.bool true)], args := [d1, d2, d3] }
  | _ => none }
def numbersRow : OpenClaim := { program := "ytjjmcnippjpclaa", sum := "71a1cbee16d5b4182b4085bc5c6f1ca22bcfa448169a082aafc6080c9e92f162", func := "tailor/tailorlaw.Numbers", spec := "numbers", apart := false }
def NumbersSaid : Prop := numbersRow.holds Try.pinned (OpenSpec.ofChange numbersSpec)

/-- ITS FALSE NEIGHBOUR: 'it returns false'. Refute it at one input. -/
def numbersWrong : ChangeSpec := { name := "numbers", fn := fun _ => fun
  | [d1, d2, d3] => { results := [.lit (.bool false)], args := [d1, d2, d3] }
  | _ => none }
def NumbersWrongFalsely : Prop := numbersRow.holds Try.pinned (OpenSpec.ofChange numbersWrong)

/-- 'tailorlaw.Plans': WHATEVER THE INPUT: true; the input reads as it did. -/
def plansSpec : ChangeSpec := { name := "plans", fn := fun _ => fun
  | [d] => { results := [.lit (.bool true)], args := [d] }
  | _ => none }
def plansRow : OpenClaim := { program := "ytjjmcnippjpclaa", sum := "71a1cbee16d5b4182b4085bc5c6f1ca22bcfa448169a082aafc6080c9e92f162", func := "tailor/tailorlaw.Plans", spec := "plans", apart := false }
def PlansSaid : Prop := plansRow.holds Try.pinned (OpenSpec.ofChange plansSpec)

/-- ITS FALSE NEIGHBOUR: 'it returns false'. Refute it at one input. -/
def plansWrong : ChangeSpec := { name := "plans", fn := fun _ => fun
  | [d] => { results := [.lit (.bool false)], args := [d] }
  | _ => none }
def PlansWrongFalsely : Prop := plansRow.holds Try.pinned (OpenSpec.ofChange plansWrong)

/-- 'tailorlaw.Writes': WHATEVER THE INPUT: true; the input reads as it did. -/
def writesSpec : ChangeSpec := { name := "writes", fn := fun _ => fun
  | [d] => { results := [.lit (.bool true)], args := [d] }
  | _ => none }
def writesRow : OpenClaim := { program := "ytjjmcnippjpclaa", sum := "71a1cbee16d5b4182b4085bc5c6f1ca22bcfa448169a082aafc6080c9e92f162", func := "tailor/tailorlaw.Writes", spec := "writes", inPlace := ["internal/abi.NoEscape"], apart := false }
def WritesSaid : Prop := writesRow.holds Try.pinned (OpenSpec.ofChange writesSpec)

/-- ITS FALSE NEIGHBOUR: 'it returns false'. Refute it at one input. -/
def writesWrong : ChangeSpec := { name := "writes", fn := fun _ => fun
  | [d] => { results := [.lit (.bool false)], args := [d] }
  | _ => none }
def WritesWrongFalsely : Prop := writesRow.holds Try.pinned (OpenSpec.ofChange writesWrong)

/-- 'tailorlaw.Makes': WHATEVER THE INPUT: true; the input reads as it did. -/
def makesSpec : ChangeSpec := { name := "makes", fn := fun _ => fun
  | [d1, d2] => { results := [.lit (.bool true)], args := [d1, d2] }
  | _ => none }
def makesRow : OpenClaim := { program := "ytjjmcnippjpclaa", sum := "71a1cbee16d5b4182b4085bc5c6f1ca22bcfa448169a082aafc6080c9e92f162", func := "tailor/tailorlaw.Makes", spec := "makes", inPlace := ["internal/abi.NoEscape"], unfollowed := true, recurses := true, apart := false }
def MakesSaid : Prop := makesRow.holds Try.pinned (OpenSpec.ofChange makesSpec)

/-- ITS FALSE NEIGHBOUR: 'it returns false'. Refute it at one input. -/
def makesWrong : ChangeSpec := { name := "makes", fn := fun _ => fun
  | [d1, d2] => { results := [.lit (.bool false)], args := [d1, d2] }
  | _ => none }
def MakesWrongFalsely : Prop := makesRow.holds Try.pinned (OpenSpec.ofChange makesWrong)

/-- 'tailorlaw.Does': WHATEVER THE INPUT: true; the input reads as it did. -/
def doesSpec : ChangeSpec := { name := "does", fn := fun _ => fun
  | [d1, d2, d3, d4] => { results := [.lit (.bool true)], args := [d1, d2, d3, d4] }
  | _ => none }
def doesRow : OpenClaim := { program := "ytjjmcnippjpclaa", sum := "71a1cbee16d5b4182b4085bc5c6f1ca22bcfa448169a082aafc6080c9e92f162", func := "tailor/tailorlaw.Does", spec := "does", inPlace := ["internal/abi.NoEscape"], apart := false }
def DoesSaid : Prop := doesRow.holds Try.pinned (OpenSpec.ofChange doesSpec)

/-- ITS FALSE NEIGHBOUR: 'it returns false'. Refute it at one input. -/
def doesWrong : ChangeSpec := { name := "does", fn := fun _ => fun
  | [d1, d2, d3, d4] => { results := [.lit (.bool false)], args := [d1, d2, d3, d4] }
  | _ => none }
def DoesWrongFalsely : Prop := doesRow.holds Try.pinned (OpenSpec.ofChange doesWrong)

/-- 'tailorkeep.Told': WHATEVER THE INPUT: true; the input reads as it did. -/
def toldSpec : ChangeSpec := { name := "told", fn := fun _ => fun
  | [d1, d2, d3, d4] => { results := [.lit (.bool true)], args := [d1, d2, d3, d4] }
  | _ => none }
def toldRow : OpenClaim := { program := "ytjjmcnippjpclaa", sum := "71a1cbee16d5b4182b4085bc5c6f1ca22bcfa448169a082aafc6080c9e92f162", func := "tailor/tailorkeep.Told", spec := "told", apart := false }
def ToldSaid : Prop := toldRow.holds Try.pinned (OpenSpec.ofChange toldSpec)

/-- ITS FALSE NEIGHBOUR: 'it returns false'. Refute it at one input. -/
def toldWrong : ChangeSpec := { name := "told", fn := fun _ => fun
  | [d1, d2, d3, d4] => { results := [.lit (.bool false)], args := [d1, d2, d3, d4] }
  | _ => none }
def ToldWrongFalsely : Prop := toldRow.holds Try.pinned (OpenSpec.ofChange toldWrong)

/-- 'tailorkeep.Summed': WHATEVER THE INPUT: true; the input reads as it did. -/
def summedSpec : ChangeSpec := { name := "summed", fn := fun _ => fun
  | [d1, d2, d3] => { results := [.lit (.bool true)], args := [d1, d2, d3] }
  | _ => none }
def summedRow : OpenClaim := { program := "ytjjmcnippjpclaa", sum := "71a1cbee16d5b4182b4085bc5c6f1ca22bcfa448169a082aafc6080c9e92f162", func := "tailor/tailorkeep.Summed", spec := "summed", apart := false }
def SummedSaid : Prop := summedRow.holds Try.pinned (OpenSpec.ofChange summedSpec)

/-- ITS FALSE NEIGHBOUR: 'it returns false'. Refute it at one input. -/
def summedWrong : ChangeSpec := { name := "summed", fn := fun _ => fun
  | [d1, d2, d3] => { results := [.lit (.bool false)], args := [d1, d2, d3] }
  | _ => none }
def SummedWrongFalsely : Prop := summedRow.holds Try.pinned (OpenSpec.ofChange summedWrong)

/- THE SECOND FORM. 'bulk': how many values and letters a reading holds, each counted each time it is reached (what is shared counts as often as it is met; a slice's spare places count too). A statement '..UptoSaid' is the law's where the arguments, and the package variables that the reading takes, are together of bulk at most 1048576: NARROWER than '..Said'. Prove '..Said' where nothing that the law and all that it calls make is longer than what came in: it says more and counts as full. Else prove '..UptoSaid'. A law counts once. -/
mutual
def uptoBulk {H : Type} : DataW H → Nat
  | .lit (.string bytes) => bytes.length + 1
  | .lit _ => 1
  | .nil => 1
  | .ptr d => uptoBulk d + 1
  | .slice elems spare => uptoBulkAll elems + uptoBulkAll spare + 1
  | .agg parts => uptoBulkAll parts + 1
  | .iface _ d => uptoBulk d + 1
  | .map entries => uptoBulkEntries entries + 1
  | .held _ => 1
def uptoBulkAll {H : Type} : List (DataW H) → Nat
  | [] => 0
  | d :: r => uptoBulk d + uptoBulkAll r
def uptoBulkEntries {H : Type} : List (Lit × DataW H) → Nat
  | [] => 0
  | x :: r => uptoBulkEntry x + uptoBulkEntries r
def uptoBulkEntry {H : Type} : Lit × DataW H → Nat
  | (.string bytes, d) => bytes.length + uptoBulk d + 1
  | (_, d) => uptoBulk d + 1
 end
def uptoSmall : (H : Type) → List (DataW H) → Bool := fun _ ds => decide (uptoBulkAll ds ≤ 1048576)
def OpenSpec.upto (s : _root_.Go.ChangeSpec) : _root_.Go.OpenSpec := { _root_.Go.OpenSpec.ofChange s with cond := some uptoSmall }

/-- 'tailorlaw.Numbers', WHERE WHAT IT READS IS OF BULK AT MOST 1048576: true; the input reads as it did. -/
def numbersUptoRow : OpenClaim := { program := "ytjjmcnippjpclaa", sum := "71a1cbee16d5b4182b4085bc5c6f1ca22bcfa448169a082aafc6080c9e92f162", func := "tailor/tailorlaw.Numbers", spec := "numbers", apart := false, narrowed := true }
def NumbersUptoSaid : Prop := numbersUptoRow.holds Try.pinned (OpenSpec.upto numbersSpec)

/-- 'tailorlaw.Plans', WHERE WHAT IT READS IS OF BULK AT MOST 1048576: true; the input reads as it did. -/
def plansUptoRow : OpenClaim := { program := "ytjjmcnippjpclaa", sum := "71a1cbee16d5b4182b4085bc5c6f1ca22bcfa448169a082aafc6080c9e92f162", func := "tailor/tailorlaw.Plans", spec := "plans", apart := false, narrowed := true }
def PlansUptoSaid : Prop := plansUptoRow.holds Try.pinned (OpenSpec.upto plansSpec)

/-- 'tailorlaw.Writes', WHERE WHAT IT READS IS OF BULK AT MOST 1048576: true; the input reads as it did. -/
def writesUptoRow : OpenClaim := { program := "ytjjmcnippjpclaa", sum := "71a1cbee16d5b4182b4085bc5c6f1ca22bcfa448169a082aafc6080c9e92f162", func := "tailor/tailorlaw.Writes", spec := "writes", inPlace := ["internal/abi.NoEscape"], apart := false, narrowed := true }
def WritesUptoSaid : Prop := writesUptoRow.holds Try.pinned (OpenSpec.upto writesSpec)

/-- 'tailorlaw.Makes', WHERE WHAT IT READS IS OF BULK AT MOST 1048576: true; the input reads as it did. -/
def makesUptoRow : OpenClaim := { program := "ytjjmcnippjpclaa", sum := "71a1cbee16d5b4182b4085bc5c6f1ca22bcfa448169a082aafc6080c9e92f162", func := "tailor/tailorlaw.Makes", spec := "makes", inPlace := ["internal/abi.NoEscape"], unfollowed := true, recurses := true, apart := false, narrowed := true }
def MakesUptoSaid : Prop := makesUptoRow.holds Try.pinned (OpenSpec.upto makesSpec)

/-- 'tailorlaw.Does', WHERE WHAT IT READS IS OF BULK AT MOST 1048576: true; the input reads as it did. -/
def doesUptoRow : OpenClaim := { program := "ytjjmcnippjpclaa", sum := "71a1cbee16d5b4182b4085bc5c6f1ca22bcfa448169a082aafc6080c9e92f162", func := "tailor/tailorlaw.Does", spec := "does", inPlace := ["internal/abi.NoEscape"], apart := false, narrowed := true }
def DoesUptoSaid : Prop := doesUptoRow.holds Try.pinned (OpenSpec.upto doesSpec)

/-- 'tailorkeep.Told', WHERE WHAT IT READS IS OF BULK AT MOST 1048576: true; the input reads as it did. -/
def toldUptoRow : OpenClaim := { program := "ytjjmcnippjpclaa", sum := "71a1cbee16d5b4182b4085bc5c6f1ca22bcfa448169a082aafc6080c9e92f162", func := "tailor/tailorkeep.Told", spec := "told", apart := false, narrowed := true }
def ToldUptoSaid : Prop := toldUptoRow.holds Try.pinned (OpenSpec.upto toldSpec)

/-- 'tailorkeep.Summed', WHERE WHAT IT READS IS OF BULK AT MOST 1048576: true; the input reads as it did. -/
def summedUptoRow : OpenClaim := { program := "ytjjmcnippjpclaa", sum := "71a1cbee16d5b4182b4085bc5c6f1ca22bcfa448169a082aafc6080c9e92f162", func := "tailor/tailorkeep.Summed", spec := "summed", apart := false, narrowed := true }
def SummedUptoSaid : Prop := summedUptoRow.holds Try.pinned (OpenSpec.upto summedSpec)

end Rows
end Go.Proofs.Ytjjmcnippjpclaa
