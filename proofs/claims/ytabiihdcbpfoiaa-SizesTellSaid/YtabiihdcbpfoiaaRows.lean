/-
  No cell of these rows narrows 'for every input' (looked for: loops, veiled, ifaces, maps, wideKeys, modest, calm, conditions, laid).
  DERIVED. THE GIVEN ROWS OF THIS SEAT. 3 by the template 'for every input the law returns true; each argument reads behind the call as it read before'; 0 by the template 'total and deterministic' (their statements: YtabiihdcbpfoiaaTotals.lean).
  GIVEN WITH THE SEED: the statements are not yours to turn. If you find one false, say at which input.
  Laid BY PROGRAM, IN A SANDBOX (cutbox-rows.mjs): the forced cells as the released guide's own fill.sh prints them over the translation 71bc7c5847a02a0f… (all of the seat's roots in one cut). By AI agents, Wed Nov 11 2026. No macro, syntax, notation, axiom, sorry.
-/
import Derived.Test.YtabiihdcbpfoiaaChecked
import GoSem.Claim
import GoSem.ClaimJoined
import GoSem.ClaimMapViews
import Derived.JoinedTies
import Derived.KernelRfl
namespace Go.Proofs.Ytabiihdcbpfoiaa
/- THE CELL 'sum', in the pinned program and in every row, IS THE sha256 OF THE DUMP (.gsa) THAT YtabiihdcbpfoiaaProg.lean LOADS. Nothing in Lean hashes anything: it is a label: what it is worth is what the hold of that sum in a sandbox is worth. -/
noncomputable def Try.pinned : Pinned := { name := "ytabiihdcbpfoiaa", sum := "71bc7c5847a02a0f06d997ddaeb68f36ba00d91e98160d1600ba44a60c329c6b", checked := Try.checked }
namespace Rows
def none {H : Type} : Left H := { results := [], args := [] }

/-- 'beehivelaw9.SizesTell': WHATEVER THE INPUT: true; the input reads as it did. -/
def sizesTellSpec : ChangeSpec := { name := "sizesTell", fn := fun _ => fun
  | [d1, d2, d3, d4] => { results := [.lit (.bool true)], args := [d1, d2, d3, d4] }
  | _ => none }
def sizesTellRow : OpenClaim := { program := "ytabiihdcbpfoiaa", sum := "71bc7c5847a02a0f06d997ddaeb68f36ba00d91e98160d1600ba44a60c329c6b", func := "beehive/beehivelaw9.SizesTell", spec := "sizesTell", apart := false }
def SizesTellSaid : Prop := sizesTellRow.holds Try.pinned (OpenSpec.ofChange sizesTellSpec)

/-- ITS FALSE NEIGHBOUR: 'it returns false'. Refute it at one input. -/
def sizesTellWrong : ChangeSpec := { name := "sizesTell", fn := fun _ => fun
  | [d1, d2, d3, d4] => { results := [.lit (.bool false)], args := [d1, d2, d3, d4] }
  | _ => none }
def SizesTellWrongFalsely : Prop := sizesTellRow.holds Try.pinned (OpenSpec.ofChange sizesTellWrong)

/-- 'beehivelaw9.SizesLeast': WHATEVER THE INPUT: true; the input reads as it did. -/
def sizesLeastSpec : ChangeSpec := { name := "sizesLeast", fn := fun _ => fun
  | [d1, d2] => { results := [.lit (.bool true)], args := [d1, d2] }
  | _ => none }
def sizesLeastRow : OpenClaim := { program := "ytabiihdcbpfoiaa", sum := "71bc7c5847a02a0f06d997ddaeb68f36ba00d91e98160d1600ba44a60c329c6b", func := "beehive/beehivelaw9.SizesLeast", spec := "sizesLeast", apart := false }
def SizesLeastSaid : Prop := sizesLeastRow.holds Try.pinned (OpenSpec.ofChange sizesLeastSpec)

/-- ITS FALSE NEIGHBOUR: 'it returns false'. Refute it at one input. -/
def sizesLeastWrong : ChangeSpec := { name := "sizesLeast", fn := fun _ => fun
  | [d1, d2] => { results := [.lit (.bool false)], args := [d1, d2] }
  | _ => none }
def SizesLeastWrongFalsely : Prop := sizesLeastRow.holds Try.pinned (OpenSpec.ofChange sizesLeastWrong)

/-- 'beehivelaw9.SizesSums': WHATEVER THE INPUT: true; the input reads as it did. -/
def sizesSumsSpec : ChangeSpec := { name := "sizesSums", fn := fun _ => fun
  | [d1, d2, d3, d4] => { results := [.lit (.bool true)], args := [d1, d2, d3, d4] }
  | _ => none }
def sizesSumsRow : OpenClaim := { program := "ytabiihdcbpfoiaa", sum := "71bc7c5847a02a0f06d997ddaeb68f36ba00d91e98160d1600ba44a60c329c6b", func := "beehive/beehivelaw9.SizesSums", spec := "sizesSums", apart := false }
def SizesSumsSaid : Prop := sizesSumsRow.holds Try.pinned (OpenSpec.ofChange sizesSumsSpec)

/-- ITS FALSE NEIGHBOUR: 'it returns false'. Refute it at one input. -/
def sizesSumsWrong : ChangeSpec := { name := "sizesSums", fn := fun _ => fun
  | [d1, d2, d3, d4] => { results := [.lit (.bool false)], args := [d1, d2, d3, d4] }
  | _ => none }
def SizesSumsWrongFalsely : Prop := sizesSumsRow.holds Try.pinned (OpenSpec.ofChange sizesSumsWrong)

/- THE SECOND FORM. 'bulk': how many values and letters a reading holds, each counted each time it is reached (what is shared counts as often as it is met; a slice's spare places count too). A statement '..UptoSaid' is the law's where the arguments, and the package variables that the reading takes, are together of bulk at most 1048576: NARROWER than '..Said'. Prove '..Said' where nothing that the law and all that it calls make is longer than what came in: it says more and counts as full. Else prove '..UptoSaid'. A law counts once. -/
mutual
def uptoBulk {H : Type} : DataW H → Nat
  | .lit (.string bytes) => bytes.length + 1
  | .lit _ => 1
  | .nil => 1
  | .ptr d => uptoBulk d + 1
  | .slice elems spare => uptoBulkAll elems + uptoBulkAll spare + 1
  | .agg parts => uptoBulkAll parts + 1
  | .iface _ d => uptoBulk d + 1
  | .map entries => uptoBulkEntries entries + 1
  | .held _ => 1
def uptoBulkAll {H : Type} : List (DataW H) → Nat
  | [] => 0
  | d :: r => uptoBulk d + uptoBulkAll r
def uptoBulkEntries {H : Type} : List (Lit × DataW H) → Nat
  | [] => 0
  | x :: r => uptoBulkEntry x + uptoBulkEntries r
def uptoBulkEntry {H : Type} : Lit × DataW H → Nat
  | (.string bytes, d) => bytes.length + uptoBulk d + 1
  | (_, d) => uptoBulk d + 1
 end
def uptoSmall : (H : Type) → List (DataW H) → Bool := fun _ ds => decide (uptoBulkAll ds ≤ 1048576)
def OpenSpec.upto (s : _root_.Go.ChangeSpec) : _root_.Go.OpenSpec := { _root_.Go.OpenSpec.ofChange s with cond := some uptoSmall }

/-- 'beehivelaw9.SizesTell', WHERE WHAT IT READS IS OF BULK AT MOST 1048576: true; the input reads as it did. -/
def sizesTellUptoRow : OpenClaim := { program := "ytabiihdcbpfoiaa", sum := "71bc7c5847a02a0f06d997ddaeb68f36ba00d91e98160d1600ba44a60c329c6b", func := "beehive/beehivelaw9.SizesTell", spec := "sizesTell", apart := false, narrowed := true }
def SizesTellUptoSaid : Prop := sizesTellUptoRow.holds Try.pinned (OpenSpec.upto sizesTellSpec)

/-- 'beehivelaw9.SizesLeast', WHERE WHAT IT READS IS OF BULK AT MOST 1048576: true; the input reads as it did. -/
def sizesLeastUptoRow : OpenClaim := { program := "ytabiihdcbpfoiaa", sum := "71bc7c5847a02a0f06d997ddaeb68f36ba00d91e98160d1600ba44a60c329c6b", func := "beehive/beehivelaw9.SizesLeast", spec := "sizesLeast", apart := false, narrowed := true }
def SizesLeastUptoSaid : Prop := sizesLeastUptoRow.holds Try.pinned (OpenSpec.upto sizesLeastSpec)

/-- 'beehivelaw9.SizesSums', WHERE WHAT IT READS IS OF BULK AT MOST 1048576: true; the input reads as it did. -/
def sizesSumsUptoRow : OpenClaim := { program := "ytabiihdcbpfoiaa", sum := "71bc7c5847a02a0f06d997ddaeb68f36ba00d91e98160d1600ba44a60c329c6b", func := "beehive/beehivelaw9.SizesSums", spec := "sizesSums", apart := false, narrowed := true }
def SizesSumsUptoSaid : Prop := sizesSumsUptoRow.holds Try.pinned (OpenSpec.upto sizesSumsSpec)

end Rows
end Go.Proofs.Ytabiihdcbpfoiaa
