/-
  DERIVED. GIVEN WITH THE SEED: THE CARDS: each row of YtlkbapcienjdcaaDoorRows.lean that lists a variable, with what it lists TIED to the program's text (the seventh form; the later family's looks); each row that meets fmt, with fmt's text TOLD by the authors' own Lean function (tested against real Go, not proved from fmt's source: count such statements apart). THE CARD IS WHAT COUNTS. Prove the row's statement (the work); the ties are given (YtlkbapcienjdcaaDoorTie.lean); close each card by the builder's one call (the guide's Derived/Test/ToyasCard.lean, 'card_holds'). Laid BY PROGRAM, IN A SANDBOX (cutbox-door.mjs). By AI agents, Wed Nov 11 2026. No macro, syntax, notation, axiom, sorry.
-/
import Derived.Test.YtlkbapcienjdcaaDoorRows
import GoSem.ClaimSeven
namespace Go.Proofs.YtlkbapcienjdcaaDoor
namespace Rows

/-- THE TIED CARD OF 'helmsmanlaw04.LeafOnce'. -/
def leafOnceCard : Claim7 := { stood := { row := leafOnceRow, standIns := [], harness := (true, "0366f114fb6a6193bbc3c7f1bb585fe9edd8437feb59a7beb4f7baf27c9c247b"), looks := false }, kinds := [], alts := [], laidByText := true, laidKinds := [.data, .data, .data], laidTests := true, laidLooks := .later }
def LeafOnceCardSaid : Prop := Claim7.holds Tryd.pinned (.plain (OpenSpec.ofChange leafOnceSpec)) leafOnceCard

/-- THE TIED CARD OF 'helmsmanlaw04.LeafStays'. -/
def leafStaysCard : Claim7 := { stood := { row := leafStaysRow, standIns := [], harness := (true, "0366f114fb6a6193bbc3c7f1bb585fe9edd8437feb59a7beb4f7baf27c9c247b"), looks := false }, kinds := [], alts := [], laidByText := true, laidKinds := [.data, .data, .data], laidTests := true, laidLooks := .later }
def LeafStaysCardSaid : Prop := Claim7.holds Tryd.pinned (.plain (OpenSpec.ofChange leafStaysSpec)) leafStaysCard

/-- THE TIED CARD OF 'helmsmanlaw04.LeafLeq'. -/
def leafLeqCard : Claim7 := { stood := { row := leafLeqRow, standIns := [], harness := (true, "0366f114fb6a6193bbc3c7f1bb585fe9edd8437feb59a7beb4f7baf27c9c247b"), looks := false }, kinds := [], alts := [], laidByText := true, laidKinds := [.data, .data, .data], laidTests := true, laidLooks := .later }
def LeafLeqCardSaid : Prop := Claim7.holds Tryd.pinned (.plain (OpenSpec.ofChange leafLeqSpec)) leafLeqCard

/-- THE TIED CARD OF 'helmsmanlaw04.LeafAbsorbs'. -/
def leafAbsorbsCard : Claim7 := { stood := { row := leafAbsorbsRow, standIns := [], harness := (true, "0366f114fb6a6193bbc3c7f1bb585fe9edd8437feb59a7beb4f7baf27c9c247b"), looks := false }, kinds := [], alts := [], laidByText := true, laidKinds := [.data, .data, .data], laidTests := true, laidLooks := .later }
def LeafAbsorbsCardSaid : Prop := Claim7.holds Tryd.pinned (.plain (OpenSpec.ofChange leafAbsorbsSpec)) leafAbsorbsCard

/-- THE SECOND FORM's CARD OF 'helmsmanlaw04.LeafOnce'. -/
def leafOnceUptoCard : Claim7 := { stood := { row := leafOnceUptoRow, standIns := [], harness := (true, "0366f114fb6a6193bbc3c7f1bb585fe9edd8437feb59a7beb4f7baf27c9c247b"), looks := false }, kinds := [], alts := [], laidByText := true, laidKinds := [.data, .data, .data], laidTests := true, laidLooks := .later }
def LeafOnceUptoCardSaid : Prop := Claim7.holds Tryd.pinned (.plain (OpenSpec.upto leafOnceSpec)) leafOnceUptoCard

/-- THE SECOND FORM's CARD OF 'helmsmanlaw04.LeafStays'. -/
def leafStaysUptoCard : Claim7 := { stood := { row := leafStaysUptoRow, standIns := [], harness := (true, "0366f114fb6a6193bbc3c7f1bb585fe9edd8437feb59a7beb4f7baf27c9c247b"), looks := false }, kinds := [], alts := [], laidByText := true, laidKinds := [.data, .data, .data], laidTests := true, laidLooks := .later }
def LeafStaysUptoCardSaid : Prop := Claim7.holds Tryd.pinned (.plain (OpenSpec.upto leafStaysSpec)) leafStaysUptoCard

/-- THE SECOND FORM's CARD OF 'helmsmanlaw04.LeafLeq'. -/
def leafLeqUptoCard : Claim7 := { stood := { row := leafLeqUptoRow, standIns := [], harness := (true, "0366f114fb6a6193bbc3c7f1bb585fe9edd8437feb59a7beb4f7baf27c9c247b"), looks := false }, kinds := [], alts := [], laidByText := true, laidKinds := [.data, .data, .data], laidTests := true, laidLooks := .later }
def LeafLeqUptoCardSaid : Prop := Claim7.holds Tryd.pinned (.plain (OpenSpec.upto leafLeqSpec)) leafLeqUptoCard

/-- THE SECOND FORM's CARD OF 'helmsmanlaw04.LeafAbsorbs'. -/
def leafAbsorbsUptoCard : Claim7 := { stood := { row := leafAbsorbsUptoRow, standIns := [], harness := (true, "0366f114fb6a6193bbc3c7f1bb585fe9edd8437feb59a7beb4f7baf27c9c247b"), looks := false }, kinds := [], alts := [], laidByText := true, laidKinds := [.data, .data, .data], laidTests := true, laidLooks := .later }
def LeafAbsorbsUptoCardSaid : Prop := Claim7.holds Tryd.pinned (.plain (OpenSpec.upto leafAbsorbsSpec)) leafAbsorbsUptoCard
end Rows
end Go.Proofs.YtlkbapcienjdcaaDoor
