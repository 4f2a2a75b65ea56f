/-
  DERIVED. GIVEN WITH THE SEED: THE CARDS: each row of YtcldjoklkbbbgaeDoorRows.lean that lists a variable, with what it lists TIED to the program's text (the seventh form; the later family's looks); each row that meets fmt, with fmt's text TOLD by the authors' own Lean function (tested against real Go, not proved from fmt's source: count such statements apart). THE CARD IS WHAT COUNTS. Prove the row's statement (the work); the ties are given (YtcldjoklkbbbgaeDoorTie.lean); close each card by the builder's one call (the guide's Derived/Test/ToyasCard.lean, 'card_holds'). Laid BY PROGRAM, IN A SANDBOX (cutbox-door.mjs). By AI agents, Wed Nov 11 2026. No macro, syntax, notation, axiom, sorry.
-/
import Derived.Test.YtcldjoklkbbbgaeDoorRows
import GoSem.ClaimSeven
namespace Go.Proofs.YtcldjoklkbbbgaeDoor
namespace Rows

/-- THE TIED CARD OF 'dragomanlaw.KeepList'. -/
def keepListCard : Claim7 := { stood := { row := keepListRow, standIns := [], harness := (true, "19822fbbf5a239d218f97841fb7d3180e5a22fa722c2c720ff4a06083e4c233d"), looks := false }, kinds := [], alts := [], laidByText := true, laidKinds := [.data, .pinned], laidTests := true, laidLooks := .later }
def KeepListCardSaid : Prop := Claim7.holds Tryd.pinned (.plain (OpenSpec.ofChange keepListSpec)) keepListCard

/-- THE SECOND FORM's CARD OF 'dragomanlaw.KeepList'. -/
def keepListUptoCard : Claim7 := { stood := { row := keepListUptoRow, standIns := [], harness := (true, "19822fbbf5a239d218f97841fb7d3180e5a22fa722c2c720ff4a06083e4c233d"), looks := false }, kinds := [], alts := [], laidByText := true, laidKinds := [.data, .pinned], laidTests := true, laidLooks := .later }
def KeepListUptoCardSaid : Prop := Claim7.holds Tryd.pinned (.plain (OpenSpec.upto keepListSpec)) keepListUptoCard
end Rows
end Go.Proofs.YtcldjoklkbbbgaeDoor
