/-
  DERIVED. GIVEN WITH THE SEED: THE CARDS: each row of YtnjdpibgfbbkcabGreatDoorRows.lean that lists a variable, with what it lists TIED to the program's text (the seventh form; the later family's looks); each row that meets fmt, with fmt's text TOLD by the authors' own Lean function (tested against real Go, not proved from fmt's source: count such statements apart). THE CARD IS WHAT COUNTS. Prove the row's statement (the work); the ties are given (YtnjdpibgfbbkcabGreatDoorTie.lean); close each card by the builder's one call (the guide's Derived/Test/ToyasCard.lean, 'card_holds'). Laid BY PROGRAM, IN A SANDBOX (cutbox-door.mjs). By AI agents, Wed Nov 11 2026. No macro, syntax, notation, axiom, sorry.
-/
import Derived.Test.YtnjdpibgfbbkcabGreatDoorRows
import GoSem.ClaimSeven
namespace Go.Proofs.YtnjdpibgfbbkcabGreatDoor
namespace Rows

/-- THE TIED CARD OF 'dragomanlaw.FrameFeeds'. -/
def frameFeedsCard : Claim7 := { stood := { row := frameFeedsRow, standIns := [], harness := (true, "609c55ec04ad1edfcfa55abbfdc4dd5b0f05f277940d06c680c88c41b7e18721"), looks := false }, kinds := [], alts := [], laidByText := true, laidKinds := [.data, .pinned], laidTests := true, laidLooks := .later }
def FrameFeedsCardSaid : Prop := Claim7.holds Tryz.pinned (.plain (OpenSpec.ofChange frameFeedsSpec)) frameFeedsCard

/-- THE SECOND FORM's CARD OF 'dragomanlaw.FrameFeeds'. -/
def frameFeedsUptoCard : Claim7 := { stood := { row := frameFeedsUptoRow, standIns := [], harness := (true, "609c55ec04ad1edfcfa55abbfdc4dd5b0f05f277940d06c680c88c41b7e18721"), looks := false }, kinds := [], alts := [], laidByText := true, laidKinds := [.data, .pinned], laidTests := true, laidLooks := .later }
def FrameFeedsUptoCardSaid : Prop := Claim7.holds Tryz.pinned (.plain (OpenSpec.upto frameFeedsSpec)) frameFeedsUptoCard
end Rows
end Go.Proofs.YtnjdpibgfbbkcabGreatDoor
