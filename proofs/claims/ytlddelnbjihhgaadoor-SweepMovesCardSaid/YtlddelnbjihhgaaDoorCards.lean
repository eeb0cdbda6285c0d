/-
  DERIVED. GIVEN WITH THE SEED: THE CARDS: each row of YtlddelnbjihhgaaDoorRows.lean that lists a variable, with what it lists TIED to the program's text (the seventh form; the later family's looks); each row that meets fmt, with fmt's text TOLD by the authors' own Lean function (tested against real Go, not proved from fmt's source: count such statements apart). THE CARD IS WHAT COUNTS. Prove the row's statement (the work); the ties are given (YtlddelnbjihhgaaDoorTie.lean); close each card by the builder's one call (the guide's Derived/Test/ToyasCard.lean, 'card_holds'). Laid BY PROGRAM, IN A SANDBOX (cutbox-door.mjs). By AI agents, Wed Nov 11 2026. No macro, syntax, notation, axiom, sorry.
-/
import Derived.Test.YtlddelnbjihhgaaDoorRows
import GoSem.ClaimSeven
namespace Go.Proofs.YtlddelnbjihhgaaDoor
namespace Rows

/-- THE TIED CARD OF 'helmsmanlaw03.ZoneCloses'. -/
def zoneClosesCard : Claim7 := { stood := { row := zoneClosesRow, standIns := [], harness := (true, "34dc230ea5e271fcb6e0ca515fd0e439e318f7219dcd49f72ace87c41f199eda"), looks := true }, kinds := [], alts := [], laidByText := true, laidKinds := [.data, .data, .data], laidTests := true, laidLooks := .later }
def ZoneClosesCardSaid : Prop := Claim7.holds Tryd.pinned (.plain (OpenSpec.ofChange zoneClosesSpec)) zoneClosesCard

/-- THE TIED CARD OF 'helmsmanlaw03.ZoneRests'. -/
def zoneRestsCard : Claim7 := { stood := { row := zoneRestsRow, standIns := [], harness := (true, "34dc230ea5e271fcb6e0ca515fd0e439e318f7219dcd49f72ace87c41f199eda"), looks := true }, kinds := [], alts := [], laidByText := true, laidKinds := [.data, .data, .data], laidTests := true, laidLooks := .later }
def ZoneRestsCardSaid : Prop := Claim7.holds Tryd.pinned (.plain (OpenSpec.ofChange zoneRestsSpec)) zoneRestsCard

/-- THE TIED CARD OF 'helmsmanlaw09.SweepCompacts'. -/
def sweepCompactsCard : Claim7 := { stood := { row := sweepCompactsRow, standIns := [], harness := (true, "34dc230ea5e271fcb6e0ca515fd0e439e318f7219dcd49f72ace87c41f199eda"), looks := true }, kinds := [], alts := [], laidByText := true, laidKinds := [.handle], laidTests := true, laidLooks := .later }
def SweepCompactsCardSaid : Prop := Claim7.holds Tryd.pinned (.plain (OpenSpec.ofChange sweepCompactsSpec)) sweepCompactsCard

/-- THE TIED CARD OF 'helmsmanlaw09.SweepMoves'. -/
def sweepMovesCard : Claim7 := { stood := { row := sweepMovesRow, standIns := [], harness := (true, "34dc230ea5e271fcb6e0ca515fd0e439e318f7219dcd49f72ace87c41f199eda"), looks := true }, kinds := [], alts := [], laidByText := true, laidKinds := [.handle], laidTests := true, laidLooks := .later }
def SweepMovesCardSaid : Prop := Claim7.holds Tryd.pinned (.plain (OpenSpec.ofChange sweepMovesSpec)) sweepMovesCard

/-- THE SECOND FORM's CARD OF 'helmsmanlaw03.ZoneCloses'. -/
def zoneClosesUptoCard : Claim7 := { stood := { row := zoneClosesUptoRow, standIns := [], harness := (true, "34dc230ea5e271fcb6e0ca515fd0e439e318f7219dcd49f72ace87c41f199eda"), looks := true }, kinds := [], alts := [], laidByText := true, laidKinds := [.data, .data, .data], laidTests := true, laidLooks := .later }
def ZoneClosesUptoCardSaid : Prop := Claim7.holds Tryd.pinned (.plain (OpenSpec.upto zoneClosesSpec)) zoneClosesUptoCard

/-- THE SECOND FORM's CARD OF 'helmsmanlaw03.ZoneRests'. -/
def zoneRestsUptoCard : Claim7 := { stood := { row := zoneRestsUptoRow, standIns := [], harness := (true, "34dc230ea5e271fcb6e0ca515fd0e439e318f7219dcd49f72ace87c41f199eda"), looks := true }, kinds := [], alts := [], laidByText := true, laidKinds := [.data, .data, .data], laidTests := true, laidLooks := .later }
def ZoneRestsUptoCardSaid : Prop := Claim7.holds Tryd.pinned (.plain (OpenSpec.upto zoneRestsSpec)) zoneRestsUptoCard

/-- THE SECOND FORM's CARD OF 'helmsmanlaw09.SweepCompacts'. -/
def sweepCompactsUptoCard : Claim7 := { stood := { row := sweepCompactsUptoRow, standIns := [], harness := (true, "34dc230ea5e271fcb6e0ca515fd0e439e318f7219dcd49f72ace87c41f199eda"), looks := true }, kinds := [], alts := [], laidByText := true, laidKinds := [.handle], laidTests := true, laidLooks := .later }
def SweepCompactsUptoCardSaid : Prop := Claim7.holds Tryd.pinned (.plain (OpenSpec.upto sweepCompactsSpec)) sweepCompactsUptoCard

/-- THE SECOND FORM's CARD OF 'helmsmanlaw09.SweepMoves'. -/
def sweepMovesUptoCard : Claim7 := { stood := { row := sweepMovesUptoRow, standIns := [], harness := (true, "34dc230ea5e271fcb6e0ca515fd0e439e318f7219dcd49f72ace87c41f199eda"), looks := true }, kinds := [], alts := [], laidByText := true, laidKinds := [.handle], laidTests := true, laidLooks := .later }
def SweepMovesUptoCardSaid : Prop := Claim7.holds Tryd.pinned (.plain (OpenSpec.upto sweepMovesSpec)) sweepMovesUptoCard
end Rows
end Go.Proofs.YtlddelnbjihhgaaDoor
