/-
  DERIVED. GIVEN WITH THE SEED: THE CARDS: each row of YthaehnkmjnkcpaaDoorRows.lean that lists a variable, with what it lists TIED to the program's text (the seventh form; the later family's looks); each row that meets fmt, with fmt's text TOLD by the authors' own Lean function (tested against real Go, not proved from fmt's source: count such statements apart). THE CARD IS WHAT COUNTS. Prove the row's statement (the work); the ties are given (YthaehnkmjnkcpaaDoorTie.lean); close each card by the builder's one call (the guide's Derived/Test/ToyasCard.lean, 'card_holds'). Laid BY PROGRAM, IN A SANDBOX (cutbox-door.mjs). By AI agents, Wed Nov 11 2026. No macro, syntax, notation, axiom, sorry.
-/
import Derived.Test.YthaehnkmjnkcpaaDoorRows
import GoSem.ClaimSeven
namespace Go.Proofs.YthaehnkmjnkcpaaDoor
namespace Rows

/-- THE TIED CARD OF 'helmsmanlaw03.ZoneTight'. -/
def zoneTightCard : Claim7 := { stood := { row := zoneTightRow, standIns := [], harness := (true, "24d9bd2364ef3ad84a1fd1ff5171cbfd8099b76dd9218e6ea33ca0eeaf981a9f"), looks := false }, kinds := [], alts := [], laidByText := true, laidKinds := [.data, .data, .data], laidTests := true, laidLooks := .later }
def ZoneTightCardSaid : Prop := Claim7.holds Tryd.pinned (.plain (OpenSpec.ofChange zoneTightSpec)) zoneTightCard

/-- THE SECOND FORM's CARD OF 'helmsmanlaw03.ZoneTight'. -/
def zoneTightUptoCard : Claim7 := { stood := { row := zoneTightUptoRow, standIns := [], harness := (true, "24d9bd2364ef3ad84a1fd1ff5171cbfd8099b76dd9218e6ea33ca0eeaf981a9f"), looks := false }, kinds := [], alts := [], laidByText := true, laidKinds := [.data, .data, .data], laidTests := true, laidLooks := .later }
def ZoneTightUptoCardSaid : Prop := Claim7.holds Tryd.pinned (.plain (OpenSpec.upto zoneTightSpec)) zoneTightUptoCard
end Rows
end Go.Proofs.YthaehnkmjnkcpaaDoor
