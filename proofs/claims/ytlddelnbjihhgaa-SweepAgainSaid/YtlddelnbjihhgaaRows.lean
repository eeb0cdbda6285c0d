/-
  No cell of these rows narrows 'for every input' (looked for: loops, veiled, ifaces, maps, wideKeys, modest, calm, conditions, laid).
  DERIVED. THE GIVEN ROWS OF THIS SEAT. 3 by the template 'for every input the law returns true; each argument reads behind the call as it read before'; 0 by the template 'total and deterministic' (their statements: YtlddelnbjihhgaaTotals.lean).
  GIVEN WITH THE SEED: the statements are not yours to turn. If you find one false, say at which input.
  Laid BY PROGRAM, IN A SANDBOX (cutbox-rows.mjs): the forced cells as the released guide's own fill.sh prints them over the translation 76d9115916879ed4… (all of the seat's roots in one cut). By AI agents, Wed Nov 11 2026. No macro, syntax, notation, axiom, sorry.
-/
import Derived.Test.YtlddelnbjihhgaaChecked
import GoSem.Claim
import GoSem.ClaimJoined
import GoSem.ClaimMapViews
import Derived.JoinedTies
import Derived.KernelRfl
namespace Go.Proofs.Ytlddelnbjihhgaa
/- THE CELL 'sum', in the pinned program and in every row, IS THE sha256 OF THE DUMP (.gsa) THAT YtlddelnbjihhgaaProg.lean LOADS. Nothing in Lean hashes anything: it is a label: what it is worth is what the hold of that sum in a sandbox is worth. -/
noncomputable def Try.pinned : Pinned := { name := "ytlddelnbjihhgaa", sum := "76d9115916879ed4fd9607853c320e435b8f1bf0f795265773e20e9f3ef692f6", checked := Try.checked }
namespace Rows
def none {H : Type} : Left H := { results := [], args := [] }

/-- 'helmsmanlaw09.SweepMarks': WHATEVER THE INPUT: true; the input reads as it did. -/
def sweepMarksSpec : ChangeSpec := { name := "sweepMarks", fn := fun _ => fun
  | [d1, d2] => { results := [.lit (.bool true)], args := [d1, d2] }
  | _ => none }
def sweepMarksRow : OpenClaim := { program := "ytlddelnbjihhgaa", sum := "76d9115916879ed4fd9607853c320e435b8f1bf0f795265773e20e9f3ef692f6", func := "helmsman/helmsmanlaw09.SweepMarks", spec := "sweepMarks", inPlace := ["internal/reflectlite.TypeOf"], unfollowed := true, recurses := true, apart := false }
def SweepMarksSaid : Prop := sweepMarksRow.holds Try.pinned (OpenSpec.ofChange sweepMarksSpec)

/-- ITS FALSE NEIGHBOUR: 'it returns false'. Refute it at one input. -/
def sweepMarksWrong : ChangeSpec := { name := "sweepMarks", fn := fun _ => fun
  | [d1, d2] => { results := [.lit (.bool false)], args := [d1, d2] }
  | _ => none }
def SweepMarksWrongFalsely : Prop := sweepMarksRow.holds Try.pinned (OpenSpec.ofChange sweepMarksWrong)

/-- 'helmsmanlaw09.SweepWalks': WHATEVER THE INPUT: true; the input reads as it did. -/
def sweepWalksSpec : ChangeSpec := { name := "sweepWalks", fn := fun _ => fun
  | [d1, d2, d3] => { results := [.lit (.bool true)], args := [d1, d2, d3] }
  | _ => none }
def sweepWalksRow : OpenClaim := { program := "ytlddelnbjihhgaa", sum := "76d9115916879ed4fd9607853c320e435b8f1bf0f795265773e20e9f3ef692f6", func := "helmsman/helmsmanlaw09.SweepWalks", spec := "sweepWalks", inPlace := ["internal/reflectlite.TypeOf"], unfollowed := true, recurses := true, apart := false }
def SweepWalksSaid : Prop := sweepWalksRow.holds Try.pinned (OpenSpec.ofChange sweepWalksSpec)

/-- ITS FALSE NEIGHBOUR: 'it returns false'. Refute it at one input. -/
def sweepWalksWrong : ChangeSpec := { name := "sweepWalks", fn := fun _ => fun
  | [d1, d2, d3] => { results := [.lit (.bool false)], args := [d1, d2, d3] }
  | _ => none }
def SweepWalksWrongFalsely : Prop := sweepWalksRow.holds Try.pinned (OpenSpec.ofChange sweepWalksWrong)

/-- 'helmsmanlaw09.SweepAgain': WHATEVER THE INPUT: true; the input reads as it did. -/
def sweepAgainSpec : ChangeSpec := { name := "sweepAgain", fn := fun _ => fun
  | [d1, d2] => { results := [.lit (.bool true)], args := [d1, d2] }
  | _ => none }
def sweepAgainRow : OpenClaim := { program := "ytlddelnbjihhgaa", sum := "76d9115916879ed4fd9607853c320e435b8f1bf0f795265773e20e9f3ef692f6", func := "helmsman/helmsmanlaw09.SweepAgain", spec := "sweepAgain", inPlace := ["internal/reflectlite.TypeOf"], unfollowed := true, recurses := true, apart := false }
def SweepAgainSaid : Prop := sweepAgainRow.holds Try.pinned (OpenSpec.ofChange sweepAgainSpec)

/-- ITS FALSE NEIGHBOUR: 'it returns false'. Refute it at one input. -/
def sweepAgainWrong : ChangeSpec := { name := "sweepAgain", fn := fun _ => fun
  | [d1, d2] => { results := [.lit (.bool false)], args := [d1, d2] }
  | _ => none }
def SweepAgainWrongFalsely : Prop := sweepAgainRow.holds Try.pinned (OpenSpec.ofChange sweepAgainWrong)

/- THE SECOND FORM. 'bulk': how many values and letters a reading holds, each counted each time it is reached (what is shared counts as often as it is met; a slice's spare places count too). A statement '..UptoSaid' is the law's where the arguments, and the package variables that the reading takes, are together of bulk at most 1048576: NARROWER than '..Said'. Prove '..Said' where nothing that the law and all that it calls make is longer than what came in: it says more and counts as full. Else prove '..UptoSaid'. A law counts once. -/
mutual
def uptoBulk {H : Type} : DataW H → Nat
  | .lit (.string bytes) => bytes.length + 1
  | .lit _ => 1
  | .nil => 1
  | .ptr d => uptoBulk d + 1
  | .slice elems spare => uptoBulkAll elems + uptoBulkAll spare + 1
  | .agg parts => uptoBulkAll parts + 1
  | .iface _ d => uptoBulk d + 1
  | .map entries => uptoBulkEntries entries + 1
  | .held _ => 1
def uptoBulkAll {H : Type} : List (DataW H) → Nat
  | [] => 0
  | d :: r => uptoBulk d + uptoBulkAll r
def uptoBulkEntries {H : Type} : List (Lit × DataW H) → Nat
  | [] => 0
  | x :: r => uptoBulkEntry x + uptoBulkEntries r
def uptoBulkEntry {H : Type} : Lit × DataW H → Nat
  | (.string bytes, d) => bytes.length + uptoBulk d + 1
  | (_, d) => uptoBulk d + 1
 end
def uptoSmall : (H : Type) → List (DataW H) → Bool := fun _ ds => decide (uptoBulkAll ds ≤ 1048576)
def OpenSpec.upto (s : _root_.Go.ChangeSpec) : _root_.Go.OpenSpec := { _root_.Go.OpenSpec.ofChange s with cond := some uptoSmall }

/-- 'helmsmanlaw09.SweepMarks', WHERE WHAT IT READS IS OF BULK AT MOST 1048576: true; the input reads as it did. -/
def sweepMarksUptoRow : OpenClaim := { program := "ytlddelnbjihhgaa", sum := "76d9115916879ed4fd9607853c320e435b8f1bf0f795265773e20e9f3ef692f6", func := "helmsman/helmsmanlaw09.SweepMarks", spec := "sweepMarks", inPlace := ["internal/reflectlite.TypeOf"], unfollowed := true, recurses := true, apart := false, narrowed := true }
def SweepMarksUptoSaid : Prop := sweepMarksUptoRow.holds Try.pinned (OpenSpec.upto sweepMarksSpec)

/-- 'helmsmanlaw09.SweepWalks', WHERE WHAT IT READS IS OF BULK AT MOST 1048576: true; the input reads as it did. -/
def sweepWalksUptoRow : OpenClaim := { program := "ytlddelnbjihhgaa", sum := "76d9115916879ed4fd9607853c320e435b8f1bf0f795265773e20e9f3ef692f6", func := "helmsman/helmsmanlaw09.SweepWalks", spec := "sweepWalks", inPlace := ["internal/reflectlite.TypeOf"], unfollowed := true, recurses := true, apart := false, narrowed := true }
def SweepWalksUptoSaid : Prop := sweepWalksUptoRow.holds Try.pinned (OpenSpec.upto sweepWalksSpec)

/-- 'helmsmanlaw09.SweepAgain', WHERE WHAT IT READS IS OF BULK AT MOST 1048576: true; the input reads as it did. -/
def sweepAgainUptoRow : OpenClaim := { program := "ytlddelnbjihhgaa", sum := "76d9115916879ed4fd9607853c320e435b8f1bf0f795265773e20e9f3ef692f6", func := "helmsman/helmsmanlaw09.SweepAgain", spec := "sweepAgain", inPlace := ["internal/reflectlite.TypeOf"], unfollowed := true, recurses := true, apart := false, narrowed := true }
def SweepAgainUptoSaid : Prop := sweepAgainUptoRow.holds Try.pinned (OpenSpec.upto sweepAgainSpec)

end Rows
end Go.Proofs.Ytlddelnbjihhgaa
