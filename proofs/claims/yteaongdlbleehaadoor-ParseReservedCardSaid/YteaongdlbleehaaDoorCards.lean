/-
  DERIVED. GIVEN WITH THE SEED: THE CARDS: each row of YteaongdlbleehaaDoorRows.lean that lists a variable, with what it lists TIED to the program's text (the seventh form; the later family's looks); each row that meets fmt, with fmt's text TOLD by the authors' own Lean function (tested against real Go, not proved from fmt's source: count such statements apart). THE CARD IS WHAT COUNTS. Prove the row's statement (the work); the ties are given (YteaongdlbleehaaDoorTie.lean); close each card by the builder's one call (the guide's Derived/Test/ToyasCard.lean, 'card_holds'). Laid BY PROGRAM, IN A SANDBOX (cutbox-door.mjs). By AI agents, Wed Nov 11 2026. No macro, syntax, notation, axiom, sorry.
-/
import Derived.Test.YteaongdlbleehaaDoorRows
import GoSem.ClaimSeven
namespace Go.Proofs.YteaongdlbleehaaDoor
namespace Rows

/-- THE TIED CARD OF 'helmsmanlaw13.ParseReserved'. -/
def parseReservedCard : Claim7 := { stood := { row := parseReservedRow, standIns := [], harness := (true, "e62d65d1f6d69a4d5695535f6cfe6e2b6a8201a9555090f0fd70121636731c43"), looks := false }, kinds := [], alts := [], laidByText := true, laidKinds := [.data, .data, .data], laidTests := true, laidLooks := .later }
def ParseReservedCardSaid : Prop := Claim7.holds Tryd.pinned (.plain (OpenSpec.ofChange parseReservedSpec)) parseReservedCard

/-- THE SECOND FORM's CARD OF 'helmsmanlaw13.ParseReserved'. -/
def parseReservedUptoCard : Claim7 := { stood := { row := parseReservedUptoRow, standIns := [], harness := (true, "e62d65d1f6d69a4d5695535f6cfe6e2b6a8201a9555090f0fd70121636731c43"), looks := false }, kinds := [], alts := [], laidByText := true, laidKinds := [.data, .data, .data], laidTests := true, laidLooks := .later }
def ParseReservedUptoCardSaid : Prop := Claim7.holds Tryd.pinned (.plain (OpenSpec.upto parseReservedSpec)) parseReservedUptoCard
end Rows
end Go.Proofs.YteaongdlbleehaaDoor
