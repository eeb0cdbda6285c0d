/-
  DERIVED. GIVEN WITH THE SEED: THE CARDS: each row of YtlddelnbjihhgaaGreatDoorRows.lean that lists a variable, with what it lists TIED to the program's text (the seventh form; the later family's looks); each row that meets fmt, with fmt's text TOLD by the authors' own Lean function (tested against real Go, not proved from fmt's source: count such statements apart). THE CARD IS WHAT COUNTS. Prove the row's statement (the work); the ties are given (YtlddelnbjihhgaaGreatDoorTie.lean); close each card by the builder's one call (the guide's Derived/Test/ToyasCard.lean, 'card_holds'). Laid BY PROGRAM, IN A SANDBOX (cutbox-door.mjs). By AI agents, Wed Nov 11 2026. No macro, syntax, notation, axiom, sorry.
-/
import Derived.Test.YtlddelnbjihhgaaGreatDoorRows
import GoSem.ClaimSeven
namespace Go.Proofs.YtlddelnbjihhgaaGreatDoor
namespace Rows

/-- THE TIED CARD OF 'helmsmanlaw03.ZoneChanges'. -/
def zoneChangesCard : Claim7 := { stood := { row := zoneChangesRow, standIns := [], harness := (true, "047ea5b068c083d735726c4205bf5728670cbcd677a83e1a526df920a2531c2a"), looks := false }, kinds := [], alts := [], laidByText := true, laidKinds := [.data, .data, .data], laidTests := true, laidLooks := .later }
def ZoneChangesCardSaid : Prop := Claim7.holds Tryz.pinned (.plain (OpenSpec.ofChange zoneChangesSpec)) zoneChangesCard

/-- THE TIED CARD OF 'helmsmanlaw03.ZoneWidens'. -/
def zoneWidensCard : Claim7 := { stood := { row := zoneWidensRow, standIns := [], harness := (true, "047ea5b068c083d735726c4205bf5728670cbcd677a83e1a526df920a2531c2a"), looks := false }, kinds := [], alts := [], laidByText := true, laidKinds := [.data, .data, .data], laidTests := true, laidLooks := .later }
def ZoneWidensCardSaid : Prop := Claim7.holds Tryz.pinned (.plain (OpenSpec.ofChange zoneWidensSpec)) zoneWidensCard

/-- THE SECOND FORM's CARD OF 'helmsmanlaw03.ZoneChanges'. -/
def zoneChangesUptoCard : Claim7 := { stood := { row := zoneChangesUptoRow, standIns := [], harness := (true, "047ea5b068c083d735726c4205bf5728670cbcd677a83e1a526df920a2531c2a"), looks := false }, kinds := [], alts := [], laidByText := true, laidKinds := [.data, .data, .data], laidTests := true, laidLooks := .later }
def ZoneChangesUptoCardSaid : Prop := Claim7.holds Tryz.pinned (.plain (OpenSpec.upto zoneChangesSpec)) zoneChangesUptoCard

/-- THE SECOND FORM's CARD OF 'helmsmanlaw03.ZoneWidens'. -/
def zoneWidensUptoCard : Claim7 := { stood := { row := zoneWidensUptoRow, standIns := [], harness := (true, "047ea5b068c083d735726c4205bf5728670cbcd677a83e1a526df920a2531c2a"), looks := false }, kinds := [], alts := [], laidByText := true, laidKinds := [.data, .data, .data], laidTests := true, laidLooks := .later }
def ZoneWidensUptoCardSaid : Prop := Claim7.holds Tryz.pinned (.plain (OpenSpec.upto zoneWidensSpec)) zoneWidensUptoCard
end Rows
end Go.Proofs.YtlddelnbjihhgaaGreatDoor
