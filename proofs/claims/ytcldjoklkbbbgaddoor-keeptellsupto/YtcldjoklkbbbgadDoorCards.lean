/-
  DERIVED. GIVEN WITH THE SEED: THE CARDS: each row of YtcldjoklkbbbgadDoorRows.lean that lists a variable, with what it lists TIED to the program's text (the seventh form; the later family's looks); each row that meets fmt, with fmt's text TOLD by the authors' own Lean function (tested against real Go, not proved from fmt's source: count such statements apart). THE CARD IS WHAT COUNTS. Prove the row's statement (the work); the ties are given (YtcldjoklkbbbgadDoorTie.lean); close each card by the builder's one call (the guide's Derived/Test/ToyasCard.lean, 'card_holds'). Laid BY PROGRAM, IN A SANDBOX (cutbox-door.mjs). By AI agents, Wed Nov 11 2026. No macro, syntax, notation, axiom, sorry.
-/
import Derived.Test.YtcldjoklkbbbgadDoorRows
import GoSem.ClaimSeven
namespace Go.Proofs.YtcldjoklkbbbgadDoor
namespace Rows

/-- THE TIED CARD OF 'dragomanlaw.KeepTells'. -/
def keepTellsCard : Claim7 := { stood := { row := keepTellsRow, standIns := [], harness := (true, "ea6ccfcdc49c108145c6cd814d125feb4ed9cfd3a1dd595931aeb5f48d4f4813"), looks := false }, kinds := [], alts := [], laidByText := true, laidKinds := [.data, .pinned], laidTests := true, laidLooks := .later }
def KeepTellsCardSaid : Prop := Claim7.holds Tryd.pinned (.plain (OpenSpec.ofChange keepTellsSpec)) keepTellsCard

/-- THE TIED CARD OF 'dragomanlaw.KeepLast'. -/
def keepLastCard : Claim7 := { stood := { row := keepLastRow, standIns := [], harness := (true, "ea6ccfcdc49c108145c6cd814d125feb4ed9cfd3a1dd595931aeb5f48d4f4813"), looks := false }, kinds := [], alts := [], laidByText := true, laidKinds := [.data, .pinned], laidTests := true, laidLooks := .later }
def KeepLastCardSaid : Prop := Claim7.holds Tryd.pinned (.plain (OpenSpec.ofChange keepLastSpec)) keepLastCard

/-- THE SECOND FORM's CARD OF 'dragomanlaw.KeepTells'. -/
def keepTellsUptoCard : Claim7 := { stood := { row := keepTellsUptoRow, standIns := [], harness := (true, "ea6ccfcdc49c108145c6cd814d125feb4ed9cfd3a1dd595931aeb5f48d4f4813"), looks := false }, kinds := [], alts := [], laidByText := true, laidKinds := [.data, .pinned], laidTests := true, laidLooks := .later }
def KeepTellsUptoCardSaid : Prop := Claim7.holds Tryd.pinned (.plain (OpenSpec.upto keepTellsSpec)) keepTellsUptoCard

/-- THE SECOND FORM's CARD OF 'dragomanlaw.KeepLast'. -/
def keepLastUptoCard : Claim7 := { stood := { row := keepLastUptoRow, standIns := [], harness := (true, "ea6ccfcdc49c108145c6cd814d125feb4ed9cfd3a1dd595931aeb5f48d4f4813"), looks := false }, kinds := [], alts := [], laidByText := true, laidKinds := [.data, .pinned], laidTests := true, laidLooks := .later }
def KeepLastUptoCardSaid : Prop := Claim7.holds Tryd.pinned (.plain (OpenSpec.upto keepLastSpec)) keepLastUptoCard
end Rows
end Go.Proofs.YtcldjoklkbbbgadDoor
