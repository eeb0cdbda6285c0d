/-
  DERIVED. GIVEN WITH THE SEED: THE CARDS: each row of YtchipmiklbnedaaDoorRows.lean that lists a variable, with what it lists TIED to the program's text (the seventh form; the later family's looks); each row that meets fmt, with fmt's text TOLD by the authors' own Lean function (tested against real Go, not proved from fmt's source: count such statements apart). THE CARD IS WHAT COUNTS. Prove the row's statement (the work); the ties are given (YtchipmiklbnedaaDoorTie.lean); close each card by the builder's one call (the guide's Derived/Test/ToyasCard.lean, 'card_holds'). Laid BY PROGRAM, IN A SANDBOX (cutbox-door.mjs). By AI agents, Wed Nov 11 2026. No macro, syntax, notation, axiom, sorry.
-/
import Derived.Test.YtchipmiklbnedaaDoorRows
import GoSem.ClaimSeven
namespace Go.Proofs.YtchipmiklbnedaaDoor
namespace Rows

/-- THE TIED CARD OF 'helmsmanlaw05.NodeAll'. -/
def nodeAllCard : Claim7 := { stood := { row := nodeAllRow, standIns := [], harness := (true, "67b686f951a31d0a506adb1674876ce97c2a166799fd7f8e874b44444ff94721"), looks := true }, kinds := [], alts := [], laidByText := true, laidKinds := [.data, .data, .data, .handle], laidTests := true, laidLooks := .later }
def NodeAllCardSaid : Prop := Claim7.holds Tryd.pinned (.plain (OpenSpec.ofChange nodeAllSpec)) nodeAllCard

/-- THE TIED CARD OF 'helmsmanlaw05.NodeWalks'. -/
def nodeWalksCard : Claim7 := { stood := { row := nodeWalksRow, standIns := [], harness := (true, "67b686f951a31d0a506adb1674876ce97c2a166799fd7f8e874b44444ff94721"), looks := true }, kinds := [], alts := [], laidByText := true, laidKinds := [.data, .data, .data, .handle], laidTests := true, laidLooks := .later }
def NodeWalksCardSaid : Prop := Claim7.holds Tryd.pinned (.plain (OpenSpec.ofChange nodeWalksSpec)) nodeWalksCard

/-- THE TIED CARD OF 'helmsmanlaw05.NodeSame'. -/
def nodeSameCard : Claim7 := { stood := { row := nodeSameRow, standIns := [], harness := (true, "67b686f951a31d0a506adb1674876ce97c2a166799fd7f8e874b44444ff94721"), looks := true }, kinds := [], alts := [], laidByText := true, laidKinds := [.data, .data, .data, .handle], laidTests := true, laidLooks := .later }
def NodeSameCardSaid : Prop := Claim7.holds Tryd.pinned (.plain (OpenSpec.ofChange nodeSameSpec)) nodeSameCard

/-- THE TIED CARD OF 'helmsmanlaw05.NodeRight'. -/
def nodeRightCard : Claim7 := { stood := { row := nodeRightRow, standIns := [], harness := (true, "67b686f951a31d0a506adb1674876ce97c2a166799fd7f8e874b44444ff94721"), looks := true }, kinds := [], alts := [], laidByText := true, laidKinds := [.data, .data, .data, .handle], laidTests := true, laidLooks := .later }
def NodeRightCardSaid : Prop := Claim7.holds Tryd.pinned (.plain (OpenSpec.ofChange nodeRightSpec)) nodeRightCard

/-- THE TIED CARD OF 'helmsmanlaw05.NodeStays'. -/
def nodeStaysCard : Claim7 := { stood := { row := nodeStaysRow, standIns := [], harness := (true, "67b686f951a31d0a506adb1674876ce97c2a166799fd7f8e874b44444ff94721"), looks := true }, kinds := [], alts := [], laidByText := true, laidKinds := [.data, .data, .data, .handle], laidTests := true, laidLooks := .later }
def NodeStaysCardSaid : Prop := Claim7.holds Tryd.pinned (.plain (OpenSpec.ofChange nodeStaysSpec)) nodeStaysCard

/-- THE TIED CARD OF 'helmsmanlaw05.NodeAlike'. -/
def nodeAlikeCard : Claim7 := { stood := { row := nodeAlikeRow, standIns := [], harness := (true, "67b686f951a31d0a506adb1674876ce97c2a166799fd7f8e874b44444ff94721"), looks := true }, kinds := [], alts := [], laidByText := true, laidKinds := [.data, .data, .data, .handle], laidTests := true, laidLooks := .later }
def NodeAlikeCardSaid : Prop := Claim7.holds Tryd.pinned (.plain (OpenSpec.ofChange nodeAlikeSpec)) nodeAlikeCard

/-- THE SECOND FORM's CARD OF 'helmsmanlaw05.NodeAll'. -/
def nodeAllUptoCard : Claim7 := { stood := { row := nodeAllUptoRow, standIns := [], harness := (true, "67b686f951a31d0a506adb1674876ce97c2a166799fd7f8e874b44444ff94721"), looks := true }, kinds := [], alts := [], laidByText := true, laidKinds := [.data, .data, .data, .handle], laidTests := true, laidLooks := .later }
def NodeAllUptoCardSaid : Prop := Claim7.holds Tryd.pinned (.plain (OpenSpec.upto nodeAllSpec)) nodeAllUptoCard

/-- THE SECOND FORM's CARD OF 'helmsmanlaw05.NodeWalks'. -/
def nodeWalksUptoCard : Claim7 := { stood := { row := nodeWalksUptoRow, standIns := [], harness := (true, "67b686f951a31d0a506adb1674876ce97c2a166799fd7f8e874b44444ff94721"), looks := true }, kinds := [], alts := [], laidByText := true, laidKinds := [.data, .data, .data, .handle], laidTests := true, laidLooks := .later }
def NodeWalksUptoCardSaid : Prop := Claim7.holds Tryd.pinned (.plain (OpenSpec.upto nodeWalksSpec)) nodeWalksUptoCard

/-- THE SECOND FORM's CARD OF 'helmsmanlaw05.NodeSame'. -/
def nodeSameUptoCard : Claim7 := { stood := { row := nodeSameUptoRow, standIns := [], harness := (true, "67b686f951a31d0a506adb1674876ce97c2a166799fd7f8e874b44444ff94721"), looks := true }, kinds := [], alts := [], laidByText := true, laidKinds := [.data, .data, .data, .handle], laidTests := true, laidLooks := .later }
def NodeSameUptoCardSaid : Prop := Claim7.holds Tryd.pinned (.plain (OpenSpec.upto nodeSameSpec)) nodeSameUptoCard

/-- THE SECOND FORM's CARD OF 'helmsmanlaw05.NodeRight'. -/
def nodeRightUptoCard : Claim7 := { stood := { row := nodeRightUptoRow, standIns := [], harness := (true, "67b686f951a31d0a506adb1674876ce97c2a166799fd7f8e874b44444ff94721"), looks := true }, kinds := [], alts := [], laidByText := true, laidKinds := [.data, .data, .data, .handle], laidTests := true, laidLooks := .later }
def NodeRightUptoCardSaid : Prop := Claim7.holds Tryd.pinned (.plain (OpenSpec.upto nodeRightSpec)) nodeRightUptoCard

/-- THE SECOND FORM's CARD OF 'helmsmanlaw05.NodeStays'. -/
def nodeStaysUptoCard : Claim7 := { stood := { row := nodeStaysUptoRow, standIns := [], harness := (true, "67b686f951a31d0a506adb1674876ce97c2a166799fd7f8e874b44444ff94721"), looks := true }, kinds := [], alts := [], laidByText := true, laidKinds := [.data, .data, .data, .handle], laidTests := true, laidLooks := .later }
def NodeStaysUptoCardSaid : Prop := Claim7.holds Tryd.pinned (.plain (OpenSpec.upto nodeStaysSpec)) nodeStaysUptoCard

/-- THE SECOND FORM's CARD OF 'helmsmanlaw05.NodeAlike'. -/
def nodeAlikeUptoCard : Claim7 := { stood := { row := nodeAlikeUptoRow, standIns := [], harness := (true, "67b686f951a31d0a506adb1674876ce97c2a166799fd7f8e874b44444ff94721"), looks := true }, kinds := [], alts := [], laidByText := true, laidKinds := [.data, .data, .data, .handle], laidTests := true, laidLooks := .later }
def NodeAlikeUptoCardSaid : Prop := Claim7.holds Tryd.pinned (.plain (OpenSpec.upto nodeAlikeSpec)) nodeAlikeUptoCard
end Rows
end Go.Proofs.YtchipmiklbnedaaDoor
