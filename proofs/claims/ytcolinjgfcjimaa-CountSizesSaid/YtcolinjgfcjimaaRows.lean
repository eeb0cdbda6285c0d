/-
  No cell of these rows narrows 'for every input' (looked for: loops, veiled, ifaces, maps, wideKeys, modest, calm, conditions, laid).
  DERIVED. THE GIVEN ROWS OF THIS SEAT. 6 by the template 'for every input the law returns true; each argument reads behind the call as it read before'; 0 by the template 'total and deterministic' (their statements: YtcolinjgfcjimaaTotals.lean).
  GIVEN WITH THE SEED: the statements are not yours to turn. If you find one false, say at which input.
  Laid BY PROGRAM, IN A SANDBOX (cutbox-rows.mjs): the forced cells as the released guide's own fill.sh prints them over the translation 6bd421430f917426… (all of the seat's roots in one cut). By AI agents, Wed Nov 11 2026. No macro, syntax, notation, axiom, sorry.
-/
import Derived.Test.YtcolinjgfcjimaaChecked
import GoSem.Claim
import GoSem.ClaimJoined
import GoSem.ClaimMapViews
import Derived.JoinedTies
import Derived.KernelRfl
namespace Go.Proofs.Ytcolinjgfcjimaa
/- THE CELL 'sum', in the pinned program and in every row, IS THE sha256 OF THE DUMP (.gsa) THAT YtcolinjgfcjimaaProg.lean LOADS. Nothing in Lean hashes anything: it is a label: what it is worth is what the hold of that sum in a sandbox is worth. -/
noncomputable def Try.pinned : Pinned := { name := "ytcolinjgfcjimaa", sum := "6bd421430f917426446d8de3adf81519db20a32c6a8862d89c1cf72056452adc", checked := Try.checked }
namespace Rows
def none {H : Type} : Left H := { results := [], args := [] }

/-- 'helmsmanlaw08.CountSats': WHATEVER THE INPUT: true; the input reads as it did. -/
def countSatsSpec : ChangeSpec := { name := "countSats", fn := fun _ => fun
  | [d1, d2, d3] => { results := [.lit (.bool true)], args := [d1, d2, d3] }
  | _ => none }
def countSatsRow : OpenClaim := { program := "ytcolinjgfcjimaa", sum := "6bd421430f917426446d8de3adf81519db20a32c6a8862d89c1cf72056452adc", func := "helmsman/helmsmanlaw08.CountSats", spec := "countSats", unfollowed := true, recurses := true, apart := false }
def CountSatsSaid : Prop := countSatsRow.holds Try.pinned (OpenSpec.ofChange countSatsSpec)

/-- ITS FALSE NEIGHBOUR: 'it returns false'. Refute it at one input. -/
def countSatsWrong : ChangeSpec := { name := "countSats", fn := fun _ => fun
  | [d1, d2, d3] => { results := [.lit (.bool false)], args := [d1, d2, d3] }
  | _ => none }
def CountSatsWrongFalsely : Prop := countSatsRow.holds Try.pinned (OpenSpec.ofChange countSatsWrong)

/-- 'helmsmanlaw08.CountSizes': WHATEVER THE INPUT: true; the input reads as it did. -/
def countSizesSpec : ChangeSpec := { name := "countSizes", fn := fun _ => fun
  | [d1, d2] => { results := [.lit (.bool true)], args := [d1, d2] }
  | _ => none }
def countSizesRow : OpenClaim := { program := "ytcolinjgfcjimaa", sum := "6bd421430f917426446d8de3adf81519db20a32c6a8862d89c1cf72056452adc", func := "helmsman/helmsmanlaw08.CountSizes", spec := "countSizes", unfollowed := true, recurses := true, apart := false }
def CountSizesSaid : Prop := countSizesRow.holds Try.pinned (OpenSpec.ofChange countSizesSpec)

/-- ITS FALSE NEIGHBOUR: 'it returns false'. Refute it at one input. -/
def countSizesWrong : ChangeSpec := { name := "countSizes", fn := fun _ => fun
  | [d1, d2] => { results := [.lit (.bool false)], args := [d1, d2] }
  | _ => none }
def CountSizesWrongFalsely : Prop := countSizesRow.holds Try.pinned (OpenSpec.ofChange countSizesWrong)

/-- 'helmsmanlaw08.CountCubes': WHATEVER THE INPUT: true; the input reads as it did. -/
def countCubesSpec : ChangeSpec := { name := "countCubes", fn := fun _ => fun
  | [d1, d2, d3] => { results := [.lit (.bool true)], args := [d1, d2, d3] }
  | _ => none }
def countCubesRow : OpenClaim := { program := "ytcolinjgfcjimaa", sum := "6bd421430f917426446d8de3adf81519db20a32c6a8862d89c1cf72056452adc", func := "helmsman/helmsmanlaw08.CountCubes", spec := "countCubes", unfollowed := true, recurses := true, apart := false }
def CountCubesSaid : Prop := countCubesRow.holds Try.pinned (OpenSpec.ofChange countCubesSpec)

/-- ITS FALSE NEIGHBOUR: 'it returns false'. Refute it at one input. -/
def countCubesWrong : ChangeSpec := { name := "countCubes", fn := fun _ => fun
  | [d1, d2, d3] => { results := [.lit (.bool false)], args := [d1, d2, d3] }
  | _ => none }
def CountCubesWrongFalsely : Prop := countCubesRow.holds Try.pinned (OpenSpec.ofChange countCubesWrong)

/-- 'helmsmanlaw08.CountFits': WHATEVER THE INPUT: true; the input reads as it did. -/
def countFitsSpec : ChangeSpec := { name := "countFits", fn := fun _ => fun
  | [d1, d2, d3] => { results := [.lit (.bool true)], args := [d1, d2, d3] }
  | _ => none }
def countFitsRow : OpenClaim := { program := "ytcolinjgfcjimaa", sum := "6bd421430f917426446d8de3adf81519db20a32c6a8862d89c1cf72056452adc", func := "helmsman/helmsmanlaw08.CountFits", spec := "countFits", unfollowed := true, recurses := true, apart := false }
def CountFitsSaid : Prop := countFitsRow.holds Try.pinned (OpenSpec.ofChange countFitsSpec)

/-- ITS FALSE NEIGHBOUR: 'it returns false'. Refute it at one input. -/
def countFitsWrong : ChangeSpec := { name := "countFits", fn := fun _ => fun
  | [d1, d2, d3] => { results := [.lit (.bool false)], args := [d1, d2, d3] }
  | _ => none }
def CountFitsWrongFalsely : Prop := countFitsRow.holds Try.pinned (OpenSpec.ofChange countFitsWrong)

/-- 'helmsmanlaw08.CountSums': WHATEVER THE INPUT: true; the input reads as it did. -/
def countSumsSpec : ChangeSpec := { name := "countSums", fn := fun _ => fun
  | [d1, d2] => { results := [.lit (.bool true)], args := [d1, d2] }
  | _ => none }
def countSumsRow : OpenClaim := { program := "ytcolinjgfcjimaa", sum := "6bd421430f917426446d8de3adf81519db20a32c6a8862d89c1cf72056452adc", func := "helmsman/helmsmanlaw08.CountSums", spec := "countSums", unfollowed := true, recurses := true, apart := false }
def CountSumsSaid : Prop := countSumsRow.holds Try.pinned (OpenSpec.ofChange countSumsSpec)

/-- ITS FALSE NEIGHBOUR: 'it returns false'. Refute it at one input. -/
def countSumsWrong : ChangeSpec := { name := "countSums", fn := fun _ => fun
  | [d1, d2] => { results := [.lit (.bool false)], args := [d1, d2] }
  | _ => none }
def CountSumsWrongFalsely : Prop := countSumsRow.holds Try.pinned (OpenSpec.ofChange countSumsWrong)

/-- 'helmsmanlaw08.CountWeights': WHATEVER THE INPUT: true; the input reads as it did. -/
def countWeightsSpec : ChangeSpec := { name := "countWeights", fn := fun _ => fun
  | [d1, d2, d3] => { results := [.lit (.bool true)], args := [d1, d2, d3] }
  | _ => none }
def countWeightsRow : OpenClaim := { program := "ytcolinjgfcjimaa", sum := "6bd421430f917426446d8de3adf81519db20a32c6a8862d89c1cf72056452adc", func := "helmsman/helmsmanlaw08.CountWeights", spec := "countWeights", unfollowed := true, recurses := true, apart := false }
def CountWeightsSaid : Prop := countWeightsRow.holds Try.pinned (OpenSpec.ofChange countWeightsSpec)

/-- ITS FALSE NEIGHBOUR: 'it returns false'. Refute it at one input. -/
def countWeightsWrong : ChangeSpec := { name := "countWeights", fn := fun _ => fun
  | [d1, d2, d3] => { results := [.lit (.bool false)], args := [d1, d2, d3] }
  | _ => none }
def CountWeightsWrongFalsely : Prop := countWeightsRow.holds Try.pinned (OpenSpec.ofChange countWeightsWrong)

/- THE SECOND FORM. 'bulk': how many values and letters a reading holds, each counted each time it is reached (what is shared counts as often as it is met; a slice's spare places count too). A statement '..UptoSaid' is the law's where the arguments, and the package variables that the reading takes, are together of bulk at most 1048576: NARROWER than '..Said'. Prove '..Said' where nothing that the law and all that it calls make is longer than what came in: it says more and counts as full. Else prove '..UptoSaid'. A law counts once. -/
mutual
def uptoBulk {H : Type} : DataW H → Nat
  | .lit (.string bytes) => bytes.length + 1
  | .lit _ => 1
  | .nil => 1
  | .ptr d => uptoBulk d + 1
  | .slice elems spare => uptoBulkAll elems + uptoBulkAll spare + 1
  | .agg parts => uptoBulkAll parts + 1
  | .iface _ d => uptoBulk d + 1
  | .map entries => uptoBulkEntries entries + 1
  | .held _ => 1
def uptoBulkAll {H : Type} : List (DataW H) → Nat
  | [] => 0
  | d :: r => uptoBulk d + uptoBulkAll r
def uptoBulkEntries {H : Type} : List (Lit × DataW H) → Nat
  | [] => 0
  | x :: r => uptoBulkEntry x + uptoBulkEntries r
def uptoBulkEntry {H : Type} : Lit × DataW H → Nat
  | (.string bytes, d) => bytes.length + uptoBulk d + 1
  | (_, d) => uptoBulk d + 1
 end
def uptoSmall : (H : Type) → List (DataW H) → Bool := fun _ ds => decide (uptoBulkAll ds ≤ 1048576)
def OpenSpec.upto (s : _root_.Go.ChangeSpec) : _root_.Go.OpenSpec := { _root_.Go.OpenSpec.ofChange s with cond := some uptoSmall }

/-- 'helmsmanlaw08.CountSats', WHERE WHAT IT READS IS OF BULK AT MOST 1048576: true; the input reads as it did. -/
def countSatsUptoRow : OpenClaim := { program := "ytcolinjgfcjimaa", sum := "6bd421430f917426446d8de3adf81519db20a32c6a8862d89c1cf72056452adc", func := "helmsman/helmsmanlaw08.CountSats", spec := "countSats", unfollowed := true, recurses := true, apart := false, narrowed := true }
def CountSatsUptoSaid : Prop := countSatsUptoRow.holds Try.pinned (OpenSpec.upto countSatsSpec)

/-- 'helmsmanlaw08.CountSizes', WHERE WHAT IT READS IS OF BULK AT MOST 1048576: true; the input reads as it did. -/
def countSizesUptoRow : OpenClaim := { program := "ytcolinjgfcjimaa", sum := "6bd421430f917426446d8de3adf81519db20a32c6a8862d89c1cf72056452adc", func := "helmsman/helmsmanlaw08.CountSizes", spec := "countSizes", unfollowed := true, recurses := true, apart := false, narrowed := true }
def CountSizesUptoSaid : Prop := countSizesUptoRow.holds Try.pinned (OpenSpec.upto countSizesSpec)

/-- 'helmsmanlaw08.CountCubes', WHERE WHAT IT READS IS OF BULK AT MOST 1048576: true; the input reads as it did. -/
def countCubesUptoRow : OpenClaim := { program := "ytcolinjgfcjimaa", sum := "6bd421430f917426446d8de3adf81519db20a32c6a8862d89c1cf72056452adc", func := "helmsman/helmsmanlaw08.CountCubes", spec := "countCubes", unfollowed := true, recurses := true, apart := false, narrowed := true }
def CountCubesUptoSaid : Prop := countCubesUptoRow.holds Try.pinned (OpenSpec.upto countCubesSpec)

/-- 'helmsmanlaw08.CountFits', WHERE WHAT IT READS IS OF BULK AT MOST 1048576: true; the input reads as it did. -/
def countFitsUptoRow : OpenClaim := { program := "ytcolinjgfcjimaa", sum := "6bd421430f917426446d8de3adf81519db20a32c6a8862d89c1cf72056452adc", func := "helmsman/helmsmanlaw08.CountFits", spec := "countFits", unfollowed := true, recurses := true, apart := false, narrowed := true }
def CountFitsUptoSaid : Prop := countFitsUptoRow.holds Try.pinned (OpenSpec.upto countFitsSpec)

/-- 'helmsmanlaw08.CountSums', WHERE WHAT IT READS IS OF BULK AT MOST 1048576: true; the input reads as it did. -/
def countSumsUptoRow : OpenClaim := { program := "ytcolinjgfcjimaa", sum := "6bd421430f917426446d8de3adf81519db20a32c6a8862d89c1cf72056452adc", func := "helmsman/helmsmanlaw08.CountSums", spec := "countSums", unfollowed := true, recurses := true, apart := false, narrowed := true }
def CountSumsUptoSaid : Prop := countSumsUptoRow.holds Try.pinned (OpenSpec.upto countSumsSpec)

/-- 'helmsmanlaw08.CountWeights', WHERE WHAT IT READS IS OF BULK AT MOST 1048576: true; the input reads as it did. -/
def countWeightsUptoRow : OpenClaim := { program := "ytcolinjgfcjimaa", sum := "6bd421430f917426446d8de3adf81519db20a32c6a8862d89c1cf72056452adc", func := "helmsman/helmsmanlaw08.CountWeights", spec := "countWeights", unfollowed := true, recurses := true, apart := false, narrowed := true }
def CountWeightsUptoSaid : Prop := countWeightsUptoRow.holds Try.pinned (OpenSpec.upto countWeightsSpec)

end Rows
end Go.Proofs.Ytcolinjgfcjimaa
