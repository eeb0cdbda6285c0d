/-
  DERIVED. GIVEN WITH THE SEED: THE CARDS: each row of YtkgdonoilpkiiaaDoorRows.lean that lists a variable, with what it lists TIED to the program's text (the seventh form; the later family's looks); each row that meets fmt, with fmt's text TOLD by the authors' own Lean function (tested against real Go, not proved from fmt's source: count such statements apart). THE CARD IS WHAT COUNTS. Prove the row's statement (the work); the ties are given (YtkgdonoilpkiiaaDoorTie.lean); close each card by the builder's one call (the guide's Derived/Test/ToyasCard.lean, 'card_holds'). Laid BY PROGRAM, IN A SANDBOX (cutbox-door.mjs). By AI agents, Wed Nov 11 2026. No macro, syntax, notation, axiom, sorry.
-/
import Derived.Test.YtkgdonoilpkiiaaDoorRows
import GoSem.ClaimSeven
namespace Go.Proofs.YtkgdonoilpkiiaaDoor
namespace Rows

/-- THE TIED CARD OF 'helmsmanlaw02.SpanCalcs'. -/
def spanCalcsCard : Claim7 := { stood := { row := spanCalcsRow, standIns := [], harness := (true, "78ecf8cec3bb261c7a4db371b3d322aa7ee9f4ec0e9d68c90c3ef2f05260f6e1"), looks := false }, kinds := [], alts := [], laidByText := true, laidKinds := [.data, .data, .data], laidTests := true, laidLooks := .later }
def SpanCalcsCardSaid : Prop := Claim7.holds Tryd.pinned (.plain (OpenSpec.ofChange spanCalcsSpec)) spanCalcsCard

/-- THE TIED CARD OF 'helmsmanlaw02.SpanReached'. -/
def spanReachedCard : Claim7 := { stood := { row := spanReachedRow, standIns := [], harness := (true, "78ecf8cec3bb261c7a4db371b3d322aa7ee9f4ec0e9d68c90c3ef2f05260f6e1"), looks := false }, kinds := [], alts := [], laidByText := true, laidKinds := [.data, .data, .data], laidTests := true, laidLooks := .later }
def SpanReachedCardSaid : Prop := Claim7.holds Tryd.pinned (.plain (OpenSpec.ofChange spanReachedSpec)) spanReachedCard

/-- THE SECOND FORM's CARD OF 'helmsmanlaw02.SpanCalcs'. -/
def spanCalcsUptoCard : Claim7 := { stood := { row := spanCalcsUptoRow, standIns := [], harness := (true, "78ecf8cec3bb261c7a4db371b3d322aa7ee9f4ec0e9d68c90c3ef2f05260f6e1"), looks := false }, kinds := [], alts := [], laidByText := true, laidKinds := [.data, .data, .data], laidTests := true, laidLooks := .later }
def SpanCalcsUptoCardSaid : Prop := Claim7.holds Tryd.pinned (.plain (OpenSpec.upto spanCalcsSpec)) spanCalcsUptoCard

/-- THE SECOND FORM's CARD OF 'helmsmanlaw02.SpanReached'. -/
def spanReachedUptoCard : Claim7 := { stood := { row := spanReachedUptoRow, standIns := [], harness := (true, "78ecf8cec3bb261c7a4db371b3d322aa7ee9f4ec0e9d68c90c3ef2f05260f6e1"), looks := false }, kinds := [], alts := [], laidByText := true, laidKinds := [.data, .data, .data], laidTests := true, laidLooks := .later }
def SpanReachedUptoCardSaid : Prop := Claim7.holds Tryd.pinned (.plain (OpenSpec.upto spanReachedSpec)) spanReachedUptoCard
end Rows
end Go.Proofs.YtkgdonoilpkiiaaDoor
