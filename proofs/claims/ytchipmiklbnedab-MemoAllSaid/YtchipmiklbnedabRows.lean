/-
  No cell of these rows narrows 'for every input' (looked for: loops, veiled, ifaces, maps, wideKeys, modest, calm, conditions, laid).
  DERIVED. THE GIVEN ROWS OF THIS SEAT. 5 by the template 'for every input the law returns true; each argument reads behind the call as it read before'; 0 by the template 'total and deterministic' (their statements: YtchipmiklbnedabTotals.lean).
  GIVEN WITH THE SEED: the statements are not yours to turn. If you find one false, say at which input.
  Laid BY PROGRAM, IN A SANDBOX (cutbox-rows.mjs): the forced cells as the released guide's own fill.sh prints them over the translation 2559b3d91a156424… (all of the seat's roots in one cut). By AI agents, Wed Nov 11 2026. No macro, syntax, notation, axiom, sorry.
-/
import Derived.Test.YtchipmiklbnedabChecked
import GoSem.Claim
import GoSem.ClaimJoined
import GoSem.ClaimMapViews
import Derived.JoinedTies
import Derived.KernelRfl
namespace Go.Proofs.Ytchipmiklbnedab
/- THE CELL 'sum', in the pinned program and in every row, IS THE sha256 OF THE DUMP (.gsa) THAT YtchipmiklbnedabProg.lean LOADS. Nothing in Lean hashes anything: it is a label: what it is worth is what the hold of that sum in a sandbox is worth. -/
noncomputable def Try.pinned : Pinned := { name := "ytchipmiklbnedab", sum := "2559b3d91a1564242a1f5d923e835d45350e17858d377e830e014159b3f03f89", checked := Try.checked }
namespace Rows
def none {H : Type} : Left H := { results := [], args := [] }

/-- 'helmsmanlaw06.MemoAll': WHATEVER THE INPUT: true; the input reads as it did. -/
def memoAllSpec : ChangeSpec := { name := "memoAll", fn := fun _ => fun
  | [d1, d2, d3] => { results := [.lit (.bool true)], args := [d1, d2, d3] }
  | _ => none }
def memoAllRow : OpenClaim := { program := "ytchipmiklbnedab", sum := "2559b3d91a1564242a1f5d923e835d45350e17858d377e830e014159b3f03f89", func := "helmsman/helmsmanlaw06.MemoAll", spec := "memoAll", apart := false }
def MemoAllSaid : Prop := memoAllRow.holds Try.pinned (OpenSpec.ofChange memoAllSpec)

/-- ITS FALSE NEIGHBOUR: 'it returns false'. Refute it at one input. -/
def memoAllWrong : ChangeSpec := { name := "memoAll", fn := fun _ => fun
  | [d1, d2, d3] => { results := [.lit (.bool false)], args := [d1, d2, d3] }
  | _ => none }
def MemoAllWrongFalsely : Prop := memoAllRow.holds Try.pinned (OpenSpec.ofChange memoAllWrong)

/-- 'helmsmanlaw06.MemoLast': WHATEVER THE INPUT: true; the input reads as it did. -/
def memoLastSpec : ChangeSpec := { name := "memoLast", fn := fun _ => fun
  | [d1, d2] => { results := [.lit (.bool true)], args := [d1, d2] }
  | _ => none }
def memoLastRow : OpenClaim := { program := "ytchipmiklbnedab", sum := "2559b3d91a1564242a1f5d923e835d45350e17858d377e830e014159b3f03f89", func := "helmsman/helmsmanlaw06.MemoLast", spec := "memoLast", apart := false }
def MemoLastSaid : Prop := memoLastRow.holds Try.pinned (OpenSpec.ofChange memoLastSpec)

/-- ITS FALSE NEIGHBOUR: 'it returns false'. Refute it at one input. -/
def memoLastWrong : ChangeSpec := { name := "memoLast", fn := fun _ => fun
  | [d1, d2] => { results := [.lit (.bool false)], args := [d1, d2] }
  | _ => none }
def MemoLastWrongFalsely : Prop := memoLastRow.holds Try.pinned (OpenSpec.ofChange memoLastWrong)

/-- 'helmsmanlaw06.MemoApart': WHATEVER THE INPUT: true; the input reads as it did. -/
def memoApartSpec : ChangeSpec := { name := "memoApart", fn := fun _ => fun
  | [d1, d2, d3] => { results := [.lit (.bool true)], args := [d1, d2, d3] }
  | _ => none }
def memoApartRow : OpenClaim := { program := "ytchipmiklbnedab", sum := "2559b3d91a1564242a1f5d923e835d45350e17858d377e830e014159b3f03f89", func := "helmsman/helmsmanlaw06.MemoApart", spec := "memoApart", apart := false }
def MemoApartSaid : Prop := memoApartRow.holds Try.pinned (OpenSpec.ofChange memoApartSpec)

/-- ITS FALSE NEIGHBOUR: 'it returns false'. Refute it at one input. -/
def memoApartWrong : ChangeSpec := { name := "memoApart", fn := fun _ => fun
  | [d1, d2, d3] => { results := [.lit (.bool false)], args := [d1, d2, d3] }
  | _ => none }
def MemoApartWrongFalsely : Prop := memoApartRow.holds Try.pinned (OpenSpec.ofChange memoApartWrong)

/-- 'helmsmanlaw06.MemoClears': WHATEVER THE INPUT: true; the input reads as it did. -/
def memoClearsSpec : ChangeSpec := { name := "memoClears", fn := fun _ => fun
  | [d1, d2] => { results := [.lit (.bool true)], args := [d1, d2] }
  | _ => none }
def memoClearsRow : OpenClaim := { program := "ytchipmiklbnedab", sum := "2559b3d91a1564242a1f5d923e835d45350e17858d377e830e014159b3f03f89", func := "helmsman/helmsmanlaw06.MemoClears", spec := "memoClears", apart := false }
def MemoClearsSaid : Prop := memoClearsRow.holds Try.pinned (OpenSpec.ofChange memoClearsSpec)

/-- ITS FALSE NEIGHBOUR: 'it returns false'. Refute it at one input. -/
def memoClearsWrong : ChangeSpec := { name := "memoClears", fn := fun _ => fun
  | [d1, d2] => { results := [.lit (.bool false)], args := [d1, d2] }
  | _ => none }
def MemoClearsWrongFalsely : Prop := memoClearsRow.holds Try.pinned (OpenSpec.ofChange memoClearsWrong)

/-- 'helmsmanlaw06.MemoSlots': WHATEVER THE INPUT: true; the input reads as it did. -/
def memoSlotsSpec : ChangeSpec := { name := "memoSlots", fn := fun _ => fun
  | [d1, d2] => { results := [.lit (.bool true)], args := [d1, d2] }
  | _ => none }
def memoSlotsRow : OpenClaim := { program := "ytchipmiklbnedab", sum := "2559b3d91a1564242a1f5d923e835d45350e17858d377e830e014159b3f03f89", func := "helmsman/helmsmanlaw06.MemoSlots", spec := "memoSlots", apart := false }
def MemoSlotsSaid : Prop := memoSlotsRow.holds Try.pinned (OpenSpec.ofChange memoSlotsSpec)

/-- ITS FALSE NEIGHBOUR: 'it returns false'. Refute it at one input. -/
def memoSlotsWrong : ChangeSpec := { name := "memoSlots", fn := fun _ => fun
  | [d1, d2] => { results := [.lit (.bool false)], args := [d1, d2] }
  | _ => none }
def MemoSlotsWrongFalsely : Prop := memoSlotsRow.holds Try.pinned (OpenSpec.ofChange memoSlotsWrong)

/- THE SECOND FORM. 'bulk': how many values and letters a reading holds, each counted each time it is reached (what is shared counts as often as it is met; a slice's spare places count too). A statement '..UptoSaid' is the law's where the arguments, and the package variables that the reading takes, are together of bulk at most 1048576: NARROWER than '..Said'. Prove '..Said' where nothing that the law and all that it calls make is longer than what came in: it says more and counts as full. Else prove '..UptoSaid'. A law counts once. -/
mutual
def uptoBulk {H : Type} : DataW H → Nat
  | .lit (.string bytes) => bytes.length + 1
  | .lit _ => 1
  | .nil => 1
  | .ptr d => uptoBulk d + 1
  | .slice elems spare => uptoBulkAll elems + uptoBulkAll spare + 1
  | .agg parts => uptoBulkAll parts + 1
  | .iface _ d => uptoBulk d + 1
  | .map entries => uptoBulkEntries entries + 1
  | .held _ => 1
def uptoBulkAll {H : Type} : List (DataW H) → Nat
  | [] => 0
  | d :: r => uptoBulk d + uptoBulkAll r
def uptoBulkEntries {H : Type} : List (Lit × DataW H) → Nat
  | [] => 0
  | x :: r => uptoBulkEntry x + uptoBulkEntries r
def uptoBulkEntry {H : Type} : Lit × DataW H → Nat
  | (.string bytes, d) => bytes.length + uptoBulk d + 1
  | (_, d) => uptoBulk d + 1
 end
def uptoSmall : (H : Type) → List (DataW H) → Bool := fun _ ds => decide (uptoBulkAll ds ≤ 1048576)
def OpenSpec.upto (s : _root_.Go.ChangeSpec) : _root_.Go.OpenSpec := { _root_.Go.OpenSpec.ofChange s with cond := some uptoSmall }

/-- 'helmsmanlaw06.MemoAll', WHERE WHAT IT READS IS OF BULK AT MOST 1048576: true; the input reads as it did. -/
def memoAllUptoRow : OpenClaim := { program := "ytchipmiklbnedab", sum := "2559b3d91a1564242a1f5d923e835d45350e17858d377e830e014159b3f03f89", func := "helmsman/helmsmanlaw06.MemoAll", spec := "memoAll", apart := false, narrowed := true }
def MemoAllUptoSaid : Prop := memoAllUptoRow.holds Try.pinned (OpenSpec.upto memoAllSpec)

/-- 'helmsmanlaw06.MemoLast', WHERE WHAT IT READS IS OF BULK AT MOST 1048576: true; the input reads as it did. -/
def memoLastUptoRow : OpenClaim := { program := "ytchipmiklbnedab", sum := "2559b3d91a1564242a1f5d923e835d45350e17858d377e830e014159b3f03f89", func := "helmsman/helmsmanlaw06.MemoLast", spec := "memoLast", apart := false, narrowed := true }
def MemoLastUptoSaid : Prop := memoLastUptoRow.holds Try.pinned (OpenSpec.upto memoLastSpec)

/-- 'helmsmanlaw06.MemoApart', WHERE WHAT IT READS IS OF BULK AT MOST 1048576: true; the input reads as it did. -/
def memoApartUptoRow : OpenClaim := { program := "ytchipmiklbnedab", sum := "2559b3d91a1564242a1f5d923e835d45350e17858d377e830e014159b3f03f89", func := "helmsman/helmsmanlaw06.MemoApart", spec := "memoApart", apart := false, narrowed := true }
def MemoApartUptoSaid : Prop := memoApartUptoRow.holds Try.pinned (OpenSpec.upto memoApartSpec)

/-- 'helmsmanlaw06.MemoClears', WHERE WHAT IT READS IS OF BULK AT MOST 1048576: true; the input reads as it did. -/
def memoClearsUptoRow : OpenClaim := { program := "ytchipmiklbnedab", sum := "2559b3d91a1564242a1f5d923e835d45350e17858d377e830e014159b3f03f89", func := "helmsman/helmsmanlaw06.MemoClears", spec := "memoClears", apart := false, narrowed := true }
def MemoClearsUptoSaid : Prop := memoClearsUptoRow.holds Try.pinned (OpenSpec.upto memoClearsSpec)

/-- 'helmsmanlaw06.MemoSlots', WHERE WHAT IT READS IS OF BULK AT MOST 1048576: true; the input reads as it did. -/
def memoSlotsUptoRow : OpenClaim := { program := "ytchipmiklbnedab", sum := "2559b3d91a1564242a1f5d923e835d45350e17858d377e830e014159b3f03f89", func := "helmsman/helmsmanlaw06.MemoSlots", spec := "memoSlots", apart := false, narrowed := true }
def MemoSlotsUptoSaid : Prop := memoSlotsUptoRow.holds Try.pinned (OpenSpec.upto memoSlotsSpec)

end Rows
end Go.Proofs.Ytchipmiklbnedab
