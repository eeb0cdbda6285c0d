/-
  DERIVED. GIVEN WITH THE SEED: THE CARDS: each row of YtklfcjimgnnlfaaDoorRows.lean that lists a variable, with what it lists TIED to the program's text (the seventh form; the later family's looks); each row that meets fmt, with fmt's text TOLD by the authors' own Lean function (tested against real Go, not proved from fmt's source: count such statements apart). THE CARD IS WHAT COUNTS. Prove the row's statement (the work); the ties are given (YtklfcjimgnnlfaaDoorTie.lean); close each card by the builder's one call (the guide's Derived/Test/ToyasCard.lean, 'card_holds'). Laid BY PROGRAM, IN A SANDBOX (cutbox-door.mjs). By AI agents, Wed Nov 11 2026. No macro, syntax, notation, axiom, sorry.
-/
import Derived.Test.YtklfcjimgnnlfaaDoorRows
import GoSem.ClaimSeven
namespace Go.Proofs.YtklfcjimgnnlfaaDoor
namespace Rows

/-- THE TIED CARD OF 'helmsmanlaw12.TreePrints'. -/
def treePrintsCard : Claim7 := { stood := { row := treePrintsRow, standIns := [], harness := (true, "4e45e7886c65cceaaccd75c63b7248f6c0bc461afa075b0597648bc47ef55489"), looks := false }, kinds := [], alts := [], laidByText := true, laidKinds := [.data, .data, .data], laidTests := true, laidLooks := .later }
def TreePrintsCardSaid : Prop := Claim7.holds Tryd.pinned (.plain (OpenSpec.ofChange treePrintsSpec)) treePrintsCard

/-- THE TIED CARD OF 'helmsmanlaw12.TreePlaces'. -/
def treePlacesCard : Claim7 := { stood := { row := treePlacesRow, standIns := [], harness := (true, "4e45e7886c65cceaaccd75c63b7248f6c0bc461afa075b0597648bc47ef55489"), looks := false }, kinds := [], alts := [], laidByText := true, laidKinds := [.data, .data, .data], laidTests := true, laidLooks := .later }
def TreePlacesCardSaid : Prop := Claim7.holds Tryd.pinned (.plain (OpenSpec.ofChange treePlacesSpec)) treePlacesCard

/-- THE TIED CARD OF 'helmsmanlaw13.ParseReserved'. -/
def parseReservedCard : Claim7 := { stood := { row := parseReservedRow, standIns := [], harness := (true, "4e45e7886c65cceaaccd75c63b7248f6c0bc461afa075b0597648bc47ef55489"), looks := false }, kinds := [], alts := [], laidByText := true, laidKinds := [.data, .data, .data], laidTests := true, laidLooks := .later }
def ParseReservedCardSaid : Prop := Claim7.holds Tryd.pinned (.plain (OpenSpec.ofChange parseReservedSpec)) parseReservedCard

/-- THE SECOND FORM's CARD OF 'helmsmanlaw12.TreePrints'. -/
def treePrintsUptoCard : Claim7 := { stood := { row := treePrintsUptoRow, standIns := [], harness := (true, "4e45e7886c65cceaaccd75c63b7248f6c0bc461afa075b0597648bc47ef55489"), looks := false }, kinds := [], alts := [], laidByText := true, laidKinds := [.data, .data, .data], laidTests := true, laidLooks := .later }
def TreePrintsUptoCardSaid : Prop := Claim7.holds Tryd.pinned (.plain (OpenSpec.upto treePrintsSpec)) treePrintsUptoCard

/-- THE SECOND FORM's CARD OF 'helmsmanlaw12.TreePlaces'. -/
def treePlacesUptoCard : Claim7 := { stood := { row := treePlacesUptoRow, standIns := [], harness := (true, "4e45e7886c65cceaaccd75c63b7248f6c0bc461afa075b0597648bc47ef55489"), looks := false }, kinds := [], alts := [], laidByText := true, laidKinds := [.data, .data, .data], laidTests := true, laidLooks := .later }
def TreePlacesUptoCardSaid : Prop := Claim7.holds Tryd.pinned (.plain (OpenSpec.upto treePlacesSpec)) treePlacesUptoCard

/-- THE SECOND FORM's CARD OF 'helmsmanlaw13.ParseReserved'. -/
def parseReservedUptoCard : Claim7 := { stood := { row := parseReservedUptoRow, standIns := [], harness := (true, "4e45e7886c65cceaaccd75c63b7248f6c0bc461afa075b0597648bc47ef55489"), looks := false }, kinds := [], alts := [], laidByText := true, laidKinds := [.data, .data, .data], laidTests := true, laidLooks := .later }
def ParseReservedUptoCardSaid : Prop := Claim7.holds Tryd.pinned (.plain (OpenSpec.upto parseReservedSpec)) parseReservedUptoCard
end Rows
end Go.Proofs.YtklfcjimgnnlfaaDoor
