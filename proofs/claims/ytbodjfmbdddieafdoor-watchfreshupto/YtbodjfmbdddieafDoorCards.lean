/-
  DERIVED. GIVEN WITH THE SEED: THE CARDS: each row of YtbodjfmbdddieafDoorRows.lean that lists a variable, with what it lists TIED to the program's text (the seventh form; the later family's looks); each row that meets fmt, with fmt's text TOLD by the authors' own Lean function (tested against real Go, not proved from fmt's source: count such statements apart). THE CARD IS WHAT COUNTS. Prove the row's statement (the work); the ties are given (YtbodjfmbdddieafDoorTie.lean); close each card by the builder's one call (the guide's Derived/Test/ToyasCard.lean, 'card_holds'). Laid BY PROGRAM, IN A SANDBOX (cutbox-door.mjs). By AI agents, Wed Nov 11 2026. No macro, syntax, notation, axiom, sorry.
-/
import Derived.Test.YtbodjfmbdddieafDoorRows
import GoSem.ClaimSeven
namespace Go.Proofs.YtbodjfmbdddieafDoor
namespace Rows

/-- THE TIED CARD OF 'dragomanlaw.WatchFresh'. -/
def watchFreshCard : Claim7 := { stood := { row := watchFreshRow, standIns := [], harness := (true, "88c1a81680daaa0d25c8afafa18106af30f69ed5f699a0fe0ce1829067a8afd8"), looks := false }, kinds := [], alts := [], laidByText := true, laidKinds := [.data, .pinned], laidTests := true, laidLooks := .later }
def WatchFreshCardSaid : Prop := Claim7.holds Tryd.pinned (.plain (OpenSpec.ofChange watchFreshSpec)) watchFreshCard

/-- THE TIED CARD OF 'dragomanlaw.WatchOne'. -/
def watchOneCard : Claim7 := { stood := { row := watchOneRow, standIns := [], harness := (true, "88c1a81680daaa0d25c8afafa18106af30f69ed5f699a0fe0ce1829067a8afd8"), looks := false }, kinds := [], alts := [], laidByText := true, laidKinds := [.data, .pinned], laidTests := true, laidLooks := .later }
def WatchOneCardSaid : Prop := Claim7.holds Tryd.pinned (.plain (OpenSpec.ofChange watchOneSpec)) watchOneCard

/-- THE SECOND FORM's CARD OF 'dragomanlaw.WatchFresh'. -/
def watchFreshUptoCard : Claim7 := { stood := { row := watchFreshUptoRow, standIns := [], harness := (true, "88c1a81680daaa0d25c8afafa18106af30f69ed5f699a0fe0ce1829067a8afd8"), looks := false }, kinds := [], alts := [], laidByText := true, laidKinds := [.data, .pinned], laidTests := true, laidLooks := .later }
def WatchFreshUptoCardSaid : Prop := Claim7.holds Tryd.pinned (.plain (OpenSpec.upto watchFreshSpec)) watchFreshUptoCard

/-- THE SECOND FORM's CARD OF 'dragomanlaw.WatchOne'. -/
def watchOneUptoCard : Claim7 := { stood := { row := watchOneUptoRow, standIns := [], harness := (true, "88c1a81680daaa0d25c8afafa18106af30f69ed5f699a0fe0ce1829067a8afd8"), looks := false }, kinds := [], alts := [], laidByText := true, laidKinds := [.data, .pinned], laidTests := true, laidLooks := .later }
def WatchOneUptoCardSaid : Prop := Claim7.holds Tryd.pinned (.plain (OpenSpec.upto watchOneSpec)) watchOneUptoCard
end Rows
end Go.Proofs.YtbodjfmbdddieafDoor
