/-
  No cell of these rows narrows 'for every input' (looked for: loops, veiled, ifaces, maps, wideKeys, modest, calm, conditions, laid).
  DERIVED. THE GIVEN ROWS OF THIS SEAT. 7 by the template 'for every input the law returns true; each argument reads behind the call as it read before'; 0 by the template 'total and deterministic' (their statements: YtgencmjdejgkoaaTotals.lean).
  GIVEN WITH THE SEED: the statements are not yours to turn. If you find one false, say at which input.
  Laid BY PROGRAM, IN A SANDBOX (cutbox-rows.mjs): the forced cells as the released guide's own fill.sh prints them over the translation 793aa00b687a7732… (all of the seat's roots in one cut). By AI agents, Wed Nov 11 2026. No macro, syntax, notation, axiom, sorry.
-/
import Derived.Test.YtgencmjdejgkoaaChecked
import GoSem.Claim
import GoSem.ClaimJoined
import GoSem.ClaimMapViews
import Derived.JoinedTies
import Derived.KernelRfl
namespace Go.Proofs.Ytgencmjdejgkoaa
/- THE CELL 'sum', in the pinned program and in every row, IS THE sha256 OF THE DUMP (.gsa) THAT YtgencmjdejgkoaaProg.lean LOADS. Nothing in Lean hashes anything: it is a label: what it is worth is what the hold of that sum in a sandbox is worth. -/
noncomputable def Try.pinned : Pinned := { name := "ytgencmjdejgkoaa", sum := "793aa00b687a773283c0d87c72131f6530ecfd56a785f6d52127ecbe712cbc2d", checked := Try.checked }
namespace Rows
def none {H : Type} : Left H := { results := [], args := [] }

/-- 'beehivelaw2.RealTells': WHATEVER THE INPUT: true; the input reads as it did. -/
def realTellsSpec : ChangeSpec := { name := "realTells", fn := fun _ => fun
  | [d1, d2] => { results := [.lit (.bool true)], args := [d1, d2] }
  | _ => none }
def realTellsRow : OpenClaim := { program := "ytgencmjdejgkoaa", sum := "793aa00b687a773283c0d87c72131f6530ecfd56a785f6d52127ecbe712cbc2d", func := "beehive/beehivelaw2.RealTells", spec := "realTells", inPlace := ["math.Float64frombits", "math.Float64bits", "math.archFloor", "math.archTrunc"], apart := false }
def RealTellsSaid : Prop := realTellsRow.holds Try.pinned (OpenSpec.ofChange realTellsSpec)

/-- ITS FALSE NEIGHBOUR: 'it returns false'. Refute it at one input. -/
def realTellsWrong : ChangeSpec := { name := "realTells", fn := fun _ => fun
  | [d1, d2] => { results := [.lit (.bool false)], args := [d1, d2] }
  | _ => none }
def RealTellsWrongFalsely : Prop := realTellsRow.holds Try.pinned (OpenSpec.ofChange realTellsWrong)

/-- 'beehivelaw2.RealNums': WHATEVER THE INPUT: true; the input reads as it did. -/
def realNumsSpec : ChangeSpec := { name := "realNums", fn := fun _ => fun
  | [d1, d2] => { results := [.lit (.bool true)], args := [d1, d2] }
  | _ => none }
def realNumsRow : OpenClaim := { program := "ytgencmjdejgkoaa", sum := "793aa00b687a773283c0d87c72131f6530ecfd56a785f6d52127ecbe712cbc2d", func := "beehive/beehivelaw2.RealNums", spec := "realNums", inPlace := ["math.Float64frombits", "math.Float64bits", "math.archFloor", "math.archTrunc"], apart := false }
def RealNumsSaid : Prop := realNumsRow.holds Try.pinned (OpenSpec.ofChange realNumsSpec)

/-- ITS FALSE NEIGHBOUR: 'it returns false'. Refute it at one input. -/
def realNumsWrong : ChangeSpec := { name := "realNums", fn := fun _ => fun
  | [d1, d2] => { results := [.lit (.bool false)], args := [d1, d2] }
  | _ => none }
def RealNumsWrongFalsely : Prop := realNumsRow.holds Try.pinned (OpenSpec.ofChange realNumsWrong)

/-- 'beehivelaw2.RealOrder': WHATEVER THE INPUT: true; the input reads as it did. -/
def realOrderSpec : ChangeSpec := { name := "realOrder", fn := fun _ => fun
  | [d1, d2, d3] => { results := [.lit (.bool true)], args := [d1, d2, d3] }
  | _ => none }
def realOrderRow : OpenClaim := { program := "ytgencmjdejgkoaa", sum := "793aa00b687a773283c0d87c72131f6530ecfd56a785f6d52127ecbe712cbc2d", func := "beehive/beehivelaw2.RealOrder", spec := "realOrder", inPlace := ["math.Float64frombits", "math.Float64bits", "math.archFloor", "math.archTrunc"], apart := false }
def RealOrderSaid : Prop := realOrderRow.holds Try.pinned (OpenSpec.ofChange realOrderSpec)

/-- ITS FALSE NEIGHBOUR: 'it returns false'. Refute it at one input. -/
def realOrderWrong : ChangeSpec := { name := "realOrder", fn := fun _ => fun
  | [d1, d2, d3] => { results := [.lit (.bool false)], args := [d1, d2, d3] }
  | _ => none }
def RealOrderWrongFalsely : Prop := realOrderRow.holds Try.pinned (OpenSpec.ofChange realOrderWrong)

/-- 'beehivelaw2.RealMixed': WHATEVER THE INPUT: true; the input reads as it did. -/
def realMixedSpec : ChangeSpec := { name := "realMixed", fn := fun _ => fun
  | [d1, d2, d3] => { results := [.lit (.bool true)], args := [d1, d2, d3] }
  | _ => none }
def realMixedRow : OpenClaim := { program := "ytgencmjdejgkoaa", sum := "793aa00b687a773283c0d87c72131f6530ecfd56a785f6d52127ecbe712cbc2d", func := "beehive/beehivelaw2.RealMixed", spec := "realMixed", inPlace := ["math.Float64frombits", "math.Float64bits", "math.archFloor", "math.archTrunc"], apart := false }
def RealMixedSaid : Prop := realMixedRow.holds Try.pinned (OpenSpec.ofChange realMixedSpec)

/-- ITS FALSE NEIGHBOUR: 'it returns false'. Refute it at one input. -/
def realMixedWrong : ChangeSpec := { name := "realMixed", fn := fun _ => fun
  | [d1, d2, d3] => { results := [.lit (.bool false)], args := [d1, d2, d3] }
  | _ => none }
def RealMixedWrongFalsely : Prop := realMixedRow.holds Try.pinned (OpenSpec.ofChange realMixedWrong)

/-- 'beehivelaw2.RealEdges': WHATEVER THE INPUT: true; the input reads as it did. -/
def realEdgesSpec : ChangeSpec := { name := "realEdges", fn := fun _ => fun
  | [d1, d2] => { results := [.lit (.bool true)], args := [d1, d2] }
  | _ => none }
def realEdgesRow : OpenClaim := { program := "ytgencmjdejgkoaa", sum := "793aa00b687a773283c0d87c72131f6530ecfd56a785f6d52127ecbe712cbc2d", func := "beehive/beehivelaw2.RealEdges", spec := "realEdges", inPlace := ["math.Float64frombits", "math.Float64bits", "math.archFloor", "math.archTrunc"], apart := false }
def RealEdgesSaid : Prop := realEdgesRow.holds Try.pinned (OpenSpec.ofChange realEdgesSpec)

/-- ITS FALSE NEIGHBOUR: 'it returns false'. Refute it at one input. -/
def realEdgesWrong : ChangeSpec := { name := "realEdges", fn := fun _ => fun
  | [d1, d2] => { results := [.lit (.bool false)], args := [d1, d2] }
  | _ => none }
def RealEdgesWrongFalsely : Prop := realEdgesRow.holds Try.pinned (OpenSpec.ofChange realEdgesWrong)

/-- 'beehivelaw2.RealHalves': WHATEVER THE INPUT: true; the input reads as it did. -/
def realHalvesSpec : ChangeSpec := { name := "realHalves", fn := fun _ => fun
  | [d1, d2] => { results := [.lit (.bool true)], args := [d1, d2] }
  | _ => none }
def realHalvesRow : OpenClaim := { program := "ytgencmjdejgkoaa", sum := "793aa00b687a773283c0d87c72131f6530ecfd56a785f6d52127ecbe712cbc2d", func := "beehive/beehivelaw2.RealHalves", spec := "realHalves", inPlace := ["math.Float64bits", "math.Float64frombits", "math.archFloor", "math.archTrunc"], apart := false }
def RealHalvesSaid : Prop := realHalvesRow.holds Try.pinned (OpenSpec.ofChange realHalvesSpec)

/-- ITS FALSE NEIGHBOUR: 'it returns false'. Refute it at one input. -/
def realHalvesWrong : ChangeSpec := { name := "realHalves", fn := fun _ => fun
  | [d1, d2] => { results := [.lit (.bool false)], args := [d1, d2] }
  | _ => none }
def RealHalvesWrongFalsely : Prop := realHalvesRow.holds Try.pinned (OpenSpec.ofChange realHalvesWrong)

/-- 'beehivelaw2.RealMirrors': WHATEVER THE INPUT: true; the input reads as it did. -/
def realMirrorsSpec : ChangeSpec := { name := "realMirrors", fn := fun _ => fun
  | [d1, d2] => { results := [.lit (.bool true)], args := [d1, d2] }
  | _ => none }
def realMirrorsRow : OpenClaim := { program := "ytgencmjdejgkoaa", sum := "793aa00b687a773283c0d87c72131f6530ecfd56a785f6d52127ecbe712cbc2d", func := "beehive/beehivelaw2.RealMirrors", spec := "realMirrors", inPlace := ["math.Float64frombits", "math.Float64bits", "math.archFloor", "math.archTrunc"], apart := false }
def RealMirrorsSaid : Prop := realMirrorsRow.holds Try.pinned (OpenSpec.ofChange realMirrorsSpec)

/-- ITS FALSE NEIGHBOUR: 'it returns false'. Refute it at one input. -/
def realMirrorsWrong : ChangeSpec := { name := "realMirrors", fn := fun _ => fun
  | [d1, d2] => { results := [.lit (.bool false)], args := [d1, d2] }
  | _ => none }
def RealMirrorsWrongFalsely : Prop := realMirrorsRow.holds Try.pinned (OpenSpec.ofChange realMirrorsWrong)

/- THE SECOND FORM. 'bulk': how many values and letters a reading holds, each counted each time it is reached (what is shared counts as often as it is met; a slice's spare places count too). A statement '..UptoSaid' is the law's where the arguments, and the package variables that the reading takes, are together of bulk at most 1048576: NARROWER than '..Said'. Prove '..Said' where nothing that the law and all that it calls make is longer than what came in: it says more and counts as full. Else prove '..UptoSaid'. A law counts once. -/
mutual
def uptoBulk {H : Type} : DataW H → Nat
  | .lit (.string bytes) => bytes.length + 1
  | .lit _ => 1
  | .nil => 1
  | .ptr d => uptoBulk d + 1
  | .slice elems spare => uptoBulkAll elems + uptoBulkAll spare + 1
  | .agg parts => uptoBulkAll parts + 1
  | .iface _ d => uptoBulk d + 1
  | .map entries => uptoBulkEntries entries + 1
  | .held _ => 1
def uptoBulkAll {H : Type} : List (DataW H) → Nat
  | [] => 0
  | d :: r => uptoBulk d + uptoBulkAll r
def uptoBulkEntries {H : Type} : List (Lit × DataW H) → Nat
  | [] => 0
  | x :: r => uptoBulkEntry x + uptoBulkEntries r
def uptoBulkEntry {H : Type} : Lit × DataW H → Nat
  | (.string bytes, d) => bytes.length + uptoBulk d + 1
  | (_, d) => uptoBulk d + 1
 end
def uptoSmall : (H : Type) → List (DataW H) → Bool := fun _ ds => decide (uptoBulkAll ds ≤ 1048576)
def OpenSpec.upto (s : _root_.Go.ChangeSpec) : _root_.Go.OpenSpec := { _root_.Go.OpenSpec.ofChange s with cond := some uptoSmall }

/-- 'beehivelaw2.RealTells', WHERE WHAT IT READS IS OF BULK AT MOST 1048576: true; the input reads as it did. -/
def realTellsUptoRow : OpenClaim := { program := "ytgencmjdejgkoaa", sum := "793aa00b687a773283c0d87c72131f6530ecfd56a785f6d52127ecbe712cbc2d", func := "beehive/beehivelaw2.RealTells", spec := "realTells", inPlace := ["math.Float64frombits", "math.Float64bits", "math.archFloor", "math.archTrunc"], apart := false, narrowed := true }
def RealTellsUptoSaid : Prop := realTellsUptoRow.holds Try.pinned (OpenSpec.upto realTellsSpec)

/-- 'beehivelaw2.RealNums', WHERE WHAT IT READS IS OF BULK AT MOST 1048576: true; the input reads as it did. -/
def realNumsUptoRow : OpenClaim := { program := "ytgencmjdejgkoaa", sum := "793aa00b687a773283c0d87c72131f6530ecfd56a785f6d52127ecbe712cbc2d", func := "beehive/beehivelaw2.RealNums", spec := "realNums", inPlace := ["math.Float64frombits", "math.Float64bits", "math.archFloor", "math.archTrunc"], apart := false, narrowed := true }
def RealNumsUptoSaid : Prop := realNumsUptoRow.holds Try.pinned (OpenSpec.upto realNumsSpec)

/-- 'beehivelaw2.RealOrder', WHERE WHAT IT READS IS OF BULK AT MOST 1048576: true; the input reads as it did. -/
def realOrderUptoRow : OpenClaim := { program := "ytgencmjdejgkoaa", sum := "793aa00b687a773283c0d87c72131f6530ecfd56a785f6d52127ecbe712cbc2d", func := "beehive/beehivelaw2.RealOrder", spec := "realOrder", inPlace := ["math.Float64frombits", "math.Float64bits", "math.archFloor", "math.archTrunc"], apart := false, narrowed := true }
def RealOrderUptoSaid : Prop := realOrderUptoRow.holds Try.pinned (OpenSpec.upto realOrderSpec)

/-- 'beehivelaw2.RealMixed', WHERE WHAT IT READS IS OF BULK AT MOST 1048576: true; the input reads as it did. -/
def realMixedUptoRow : OpenClaim := { program := "ytgencmjdejgkoaa", sum := "793aa00b687a773283c0d87c72131f6530ecfd56a785f6d52127ecbe712cbc2d", func := "beehive/beehivelaw2.RealMixed", spec := "realMixed", inPlace := ["math.Float64frombits", "math.Float64bits", "math.archFloor", "math.archTrunc"], apart := false, narrowed := true }
def RealMixedUptoSaid : Prop := realMixedUptoRow.holds Try.pinned (OpenSpec.upto realMixedSpec)

/-- 'beehivelaw2.RealEdges', WHERE WHAT IT READS IS OF BULK AT MOST 1048576: true; the input reads as it did. -/
def realEdgesUptoRow : OpenClaim := { program := "ytgencmjdejgkoaa", sum := "793aa00b687a773283c0d87c72131f6530ecfd56a785f6d52127ecbe712cbc2d", func := "beehive/beehivelaw2.RealEdges", spec := "realEdges", inPlace := ["math.Float64frombits", "math.Float64bits", "math.archFloor", "math.archTrunc"], apart := false, narrowed := true }
def RealEdgesUptoSaid : Prop := realEdgesUptoRow.holds Try.pinned (OpenSpec.upto realEdgesSpec)

/-- 'beehivelaw2.RealHalves', WHERE WHAT IT READS IS OF BULK AT MOST 1048576: true; the input reads as it did. -/
def realHalvesUptoRow : OpenClaim := { program := "ytgencmjdejgkoaa", sum := "793aa00b687a773283c0d87c72131f6530ecfd56a785f6d52127ecbe712cbc2d", func := "beehive/beehivelaw2.RealHalves", spec := "realHalves", inPlace := ["math.Float64bits", "math.Float64frombits", "math.archFloor", "math.archTrunc"], apart := false, narrowed := true }
def RealHalvesUptoSaid : Prop := realHalvesUptoRow.holds Try.pinned (OpenSpec.upto realHalvesSpec)

/-- 'beehivelaw2.RealMirrors', WHERE WHAT IT READS IS OF BULK AT MOST 1048576: true; the input reads as it did. -/
def realMirrorsUptoRow : OpenClaim := { program := "ytgencmjdejgkoaa", sum := "793aa00b687a773283c0d87c72131f6530ecfd56a785f6d52127ecbe712cbc2d", func := "beehive/beehivelaw2.RealMirrors", spec := "realMirrors", inPlace := ["math.Float64frombits", "math.Float64bits", "math.archFloor", "math.archTrunc"], apart := false, narrowed := true }
def RealMirrorsUptoSaid : Prop := realMirrorsUptoRow.holds Try.pinned (OpenSpec.upto realMirrorsSpec)

end Rows
end Go.Proofs.Ytgencmjdejgkoaa
