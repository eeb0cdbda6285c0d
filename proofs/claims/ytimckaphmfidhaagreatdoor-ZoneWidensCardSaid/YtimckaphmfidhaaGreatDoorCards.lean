/-
  DERIVED. GIVEN WITH THE SEED: THE CARDS: each row of YtimckaphmfidhaaGreatDoorRows.lean that lists a variable, with what it lists TIED to the program's text (the seventh form; the later family's looks); each row that meets fmt, with fmt's text TOLD by the authors' own Lean function (tested against real Go, not proved from fmt's source: count such statements apart). THE CARD IS WHAT COUNTS. Prove the row's statement (the work); the ties are given (YtimckaphmfidhaaGreatDoorTie.lean); close each card by the builder's one call (the guide's Derived/Test/ToyasCard.lean, 'card_holds'). Laid BY PROGRAM, IN A SANDBOX (cutbox-door.mjs). By AI agents, Wed Nov 11 2026. No macro, syntax, notation, axiom, sorry.
-/
import Derived.Test.YtimckaphmfidhaaGreatDoorRows
import GoSem.ClaimSeven
namespace Go.Proofs.YtimckaphmfidhaaGreatDoor
namespace Rows

/-- THE TIED CARD OF 'helmsmanlaw03.ZoneWidens'. -/
def zoneWidensCard : Claim7 := { stood := { row := zoneWidensRow, standIns := [], harness := (true, "265267be55b0f02ff5a6143405375f9320f35220a79b4f10ccfa21c29f18d640"), looks := true }, kinds := [], alts := [], laidByText := true, laidKinds := [.data, .data, .data], laidTests := true, laidLooks := .later }
def ZoneWidensCardSaid : Prop := Claim7.holds Tryz.pinned (.plain (OpenSpec.ofChange zoneWidensSpec)) zoneWidensCard

/-- THE TIED CARD OF 'helmsmanlaw04.LeafAll'. -/
def leafAllCard : Claim7 := { stood := { row := leafAllRow, standIns := [], harness := (true, "265267be55b0f02ff5a6143405375f9320f35220a79b4f10ccfa21c29f18d640"), looks := true }, kinds := [], alts := [], laidByText := true, laidKinds := [.data, .data, .data], laidTests := true, laidLooks := .later }
def LeafAllCardSaid : Prop := Claim7.holds Tryz.pinned (.plain (OpenSpec.ofChange leafAllSpec)) leafAllCard

/-- THE TIED CARD OF 'helmsmanlaw04.LeafCopies'. -/
def leafCopiesCard : Claim7 := { stood := { row := leafCopiesRow, standIns := [], harness := (true, "265267be55b0f02ff5a6143405375f9320f35220a79b4f10ccfa21c29f18d640"), looks := true }, kinds := [], alts := [], laidByText := true, laidKinds := [.data, .data, .data], laidTests := true, laidLooks := .later }
def LeafCopiesCardSaid : Prop := Claim7.holds Tryz.pinned (.plain (OpenSpec.ofChange leafCopiesSpec)) leafCopiesCard

/-- THE SECOND FORM's CARD OF 'helmsmanlaw03.ZoneWidens'. -/
def zoneWidensUptoCard : Claim7 := { stood := { row := zoneWidensUptoRow, standIns := [], harness := (true, "265267be55b0f02ff5a6143405375f9320f35220a79b4f10ccfa21c29f18d640"), looks := true }, kinds := [], alts := [], laidByText := true, laidKinds := [.data, .data, .data], laidTests := true, laidLooks := .later }
def ZoneWidensUptoCardSaid : Prop := Claim7.holds Tryz.pinned (.plain (OpenSpec.upto zoneWidensSpec)) zoneWidensUptoCard

/-- THE SECOND FORM's CARD OF 'helmsmanlaw04.LeafAll'. -/
def leafAllUptoCard : Claim7 := { stood := { row := leafAllUptoRow, standIns := [], harness := (true, "265267be55b0f02ff5a6143405375f9320f35220a79b4f10ccfa21c29f18d640"), looks := true }, kinds := [], alts := [], laidByText := true, laidKinds := [.data, .data, .data], laidTests := true, laidLooks := .later }
def LeafAllUptoCardSaid : Prop := Claim7.holds Tryz.pinned (.plain (OpenSpec.upto leafAllSpec)) leafAllUptoCard

/-- THE SECOND FORM's CARD OF 'helmsmanlaw04.LeafCopies'. -/
def leafCopiesUptoCard : Claim7 := { stood := { row := leafCopiesUptoRow, standIns := [], harness := (true, "265267be55b0f02ff5a6143405375f9320f35220a79b4f10ccfa21c29f18d640"), looks := true }, kinds := [], alts := [], laidByText := true, laidKinds := [.data, .data, .data], laidTests := true, laidLooks := .later }
def LeafCopiesUptoCardSaid : Prop := Claim7.holds Tryz.pinned (.plain (OpenSpec.upto leafCopiesSpec)) leafCopiesUptoCard
end Rows
end Go.Proofs.YtimckaphmfidhaaGreatDoor
