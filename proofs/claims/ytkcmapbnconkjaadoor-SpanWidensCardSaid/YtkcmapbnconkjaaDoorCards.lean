/-
  DERIVED. GIVEN WITH THE SEED: THE CARDS: each row of YtkcmapbnconkjaaDoorRows.lean that lists a variable, with what it lists TIED to the program's text (the seventh form; the later family's looks); each row that meets fmt, with fmt's text TOLD by the authors' own Lean function (tested against real Go, not proved from fmt's source: count such statements apart). THE CARD IS WHAT COUNTS. Prove the row's statement (the work); the ties are given (YtkcmapbnconkjaaDoorTie.lean); close each card by the builder's one call (the guide's Derived/Test/ToyasCard.lean, 'card_holds'). Laid BY PROGRAM, IN A SANDBOX (cutbox-door.mjs). By AI agents, Wed Nov 11 2026. No macro, syntax, notation, axiom, sorry.
-/
import Derived.Test.YtkcmapbnconkjaaDoorRows
import GoSem.ClaimSeven
namespace Go.Proofs.YtkcmapbnconkjaaDoor
namespace Rows

/-- THE TIED CARD OF 'helmsmanlaw02.SpanLaws'. -/
def spanLawsCard : Claim7 := { stood := { row := spanLawsRow, standIns := [], harness := (true, "7b8e31cb59196f7fb9ab069574e371af7113f17a5cccbee081973dd920fb9d0a"), looks := false }, kinds := [], alts := [], laidByText := true, laidKinds := [.data, .data, .data], laidTests := true, laidLooks := .later }
def SpanLawsCardSaid : Prop := Claim7.holds Tryd.pinned (.plain (OpenSpec.ofChange spanLawsSpec)) spanLawsCard

/-- THE TIED CARD OF 'helmsmanlaw02.SpanCalcs'. -/
def spanCalcsCard : Claim7 := { stood := { row := spanCalcsRow, standIns := [], harness := (true, "7b8e31cb59196f7fb9ab069574e371af7113f17a5cccbee081973dd920fb9d0a"), looks := false }, kinds := [], alts := [], laidByText := true, laidKinds := [.data, .data, .data], laidTests := true, laidLooks := .later }
def SpanCalcsCardSaid : Prop := Claim7.holds Tryd.pinned (.plain (OpenSpec.ofChange spanCalcsSpec)) spanCalcsCard

/-- THE TIED CARD OF 'helmsmanlaw02.SpanReached'. -/
def spanReachedCard : Claim7 := { stood := { row := spanReachedRow, standIns := [], harness := (true, "7b8e31cb59196f7fb9ab069574e371af7113f17a5cccbee081973dd920fb9d0a"), looks := false }, kinds := [], alts := [], laidByText := true, laidKinds := [.data, .data, .data], laidTests := true, laidLooks := .later }
def SpanReachedCardSaid : Prop := Claim7.holds Tryd.pinned (.plain (OpenSpec.ofChange spanReachedSpec)) spanReachedCard

/-- THE TIED CARD OF 'helmsmanlaw02.SpanWidens'. -/
def spanWidensCard : Claim7 := { stood := { row := spanWidensRow, standIns := [], harness := (true, "7b8e31cb59196f7fb9ab069574e371af7113f17a5cccbee081973dd920fb9d0a"), looks := false }, kinds := [], alts := [], laidByText := true, laidKinds := [.data, .data, .data], laidTests := true, laidLooks := .later }
def SpanWidensCardSaid : Prop := Claim7.holds Tryd.pinned (.plain (OpenSpec.ofChange spanWidensSpec)) spanWidensCard

/-- THE SECOND FORM's CARD OF 'helmsmanlaw02.SpanLaws'. -/
def spanLawsUptoCard : Claim7 := { stood := { row := spanLawsUptoRow, standIns := [], harness := (true, "7b8e31cb59196f7fb9ab069574e371af7113f17a5cccbee081973dd920fb9d0a"), looks := false }, kinds := [], alts := [], laidByText := true, laidKinds := [.data, .data, .data], laidTests := true, laidLooks := .later }
def SpanLawsUptoCardSaid : Prop := Claim7.holds Tryd.pinned (.plain (OpenSpec.upto spanLawsSpec)) spanLawsUptoCard

/-- THE SECOND FORM's CARD OF 'helmsmanlaw02.SpanCalcs'. -/
def spanCalcsUptoCard : Claim7 := { stood := { row := spanCalcsUptoRow, standIns := [], harness := (true, "7b8e31cb59196f7fb9ab069574e371af7113f17a5cccbee081973dd920fb9d0a"), looks := false }, kinds := [], alts := [], laidByText := true, laidKinds := [.data, .data, .data], laidTests := true, laidLooks := .later }
def SpanCalcsUptoCardSaid : Prop := Claim7.holds Tryd.pinned (.plain (OpenSpec.upto spanCalcsSpec)) spanCalcsUptoCard

/-- THE SECOND FORM's CARD OF 'helmsmanlaw02.SpanReached'. -/
def spanReachedUptoCard : Claim7 := { stood := { row := spanReachedUptoRow, standIns := [], harness := (true, "7b8e31cb59196f7fb9ab069574e371af7113f17a5cccbee081973dd920fb9d0a"), looks := false }, kinds := [], alts := [], laidByText := true, laidKinds := [.data, .data, .data], laidTests := true, laidLooks := .later }
def SpanReachedUptoCardSaid : Prop := Claim7.holds Tryd.pinned (.plain (OpenSpec.upto spanReachedSpec)) spanReachedUptoCard

/-- THE SECOND FORM's CARD OF 'helmsmanlaw02.SpanWidens'. -/
def spanWidensUptoCard : Claim7 := { stood := { row := spanWidensUptoRow, standIns := [], harness := (true, "7b8e31cb59196f7fb9ab069574e371af7113f17a5cccbee081973dd920fb9d0a"), looks := false }, kinds := [], alts := [], laidByText := true, laidKinds := [.data, .data, .data], laidTests := true, laidLooks := .later }
def SpanWidensUptoCardSaid : Prop := Claim7.holds Tryd.pinned (.plain (OpenSpec.upto spanWidensSpec)) spanWidensUptoCard
end Rows
end Go.Proofs.YtkcmapbnconkjaaDoor
