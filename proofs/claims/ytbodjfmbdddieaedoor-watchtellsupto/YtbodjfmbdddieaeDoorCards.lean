/-
  DERIVED. GIVEN WITH THE SEED: THE CARDS: each row of YtbodjfmbdddieaeDoorRows.lean that lists a variable, with what it lists TIED to the program's text (the seventh form; the later family's looks); each row that meets fmt, with fmt's text TOLD by the authors' own Lean function (tested against real Go, not proved from fmt's source: count such statements apart). THE CARD IS WHAT COUNTS. Prove the row's statement (the work); the ties are given (YtbodjfmbdddieaeDoorTie.lean); close each card by the builder's one call (the guide's Derived/Test/ToyasCard.lean, 'card_holds'). Laid BY PROGRAM, IN A SANDBOX (cutbox-door.mjs). By AI agents, Wed Nov 11 2026. No macro, syntax, notation, axiom, sorry.
-/
import Derived.Test.YtbodjfmbdddieaeDoorRows
import GoSem.ClaimSeven
namespace Go.Proofs.YtbodjfmbdddieaeDoor
namespace Rows

/-- THE TIED CARD OF 'dragomanlaw.KeepList'. -/
def keepListCard : Claim7 := { stood := { row := keepListRow, standIns := [], harness := (true, "8dbf1e598956d3d814bdf5aef1836749a8d3ae88d8b773a2a2078d21c072621e"), looks := false }, kinds := [], alts := [], laidByText := true, laidKinds := [.data, .pinned], laidTests := true, laidLooks := .later }
def KeepListCardSaid : Prop := Claim7.holds Tryd.pinned (.plain (OpenSpec.ofChange keepListSpec)) keepListCard

/-- THE TIED CARD OF 'dragomanlaw.SessionTells'. -/
def sessionTellsCard : Claim7 := { stood := { row := sessionTellsRow, standIns := [], harness := (true, "8dbf1e598956d3d814bdf5aef1836749a8d3ae88d8b773a2a2078d21c072621e"), looks := false }, kinds := [], alts := [], laidByText := true, laidKinds := [.data, .pinned], laidTests := true, laidLooks := .later }
def SessionTellsCardSaid : Prop := Claim7.holds Tryd.pinned (.plain (OpenSpec.ofChange sessionTellsSpec)) sessionTellsCard

/-- THE TIED CARD OF 'dragomanlaw.SessionHolds'. -/
def sessionHoldsCard : Claim7 := { stood := { row := sessionHoldsRow, standIns := [], harness := (true, "8dbf1e598956d3d814bdf5aef1836749a8d3ae88d8b773a2a2078d21c072621e"), looks := false }, kinds := [], alts := [], laidByText := true, laidKinds := [.data, .pinned], laidTests := true, laidLooks := .later }
def SessionHoldsCardSaid : Prop := Claim7.holds Tryd.pinned (.plain (OpenSpec.ofChange sessionHoldsSpec)) sessionHoldsCard

/-- THE TIED CARD OF 'dragomanlaw.WatchTells'. -/
def watchTellsCard : Claim7 := { stood := { row := watchTellsRow, standIns := [], harness := (true, "8dbf1e598956d3d814bdf5aef1836749a8d3ae88d8b773a2a2078d21c072621e"), looks := false }, kinds := [], alts := [], laidByText := true, laidKinds := [.data, .pinned], laidTests := true, laidLooks := .later }
def WatchTellsCardSaid : Prop := Claim7.holds Tryd.pinned (.plain (OpenSpec.ofChange watchTellsSpec)) watchTellsCard

/-- THE SECOND FORM's CARD OF 'dragomanlaw.KeepList'. -/
def keepListUptoCard : Claim7 := { stood := { row := keepListUptoRow, standIns := [], harness := (true, "8dbf1e598956d3d814bdf5aef1836749a8d3ae88d8b773a2a2078d21c072621e"), looks := false }, kinds := [], alts := [], laidByText := true, laidKinds := [.data, .pinned], laidTests := true, laidLooks := .later }
def KeepListUptoCardSaid : Prop := Claim7.holds Tryd.pinned (.plain (OpenSpec.upto keepListSpec)) keepListUptoCard

/-- THE SECOND FORM's CARD OF 'dragomanlaw.SessionTells'. -/
def sessionTellsUptoCard : Claim7 := { stood := { row := sessionTellsUptoRow, standIns := [], harness := (true, "8dbf1e598956d3d814bdf5aef1836749a8d3ae88d8b773a2a2078d21c072621e"), looks := false }, kinds := [], alts := [], laidByText := true, laidKinds := [.data, .pinned], laidTests := true, laidLooks := .later }
def SessionTellsUptoCardSaid : Prop := Claim7.holds Tryd.pinned (.plain (OpenSpec.upto sessionTellsSpec)) sessionTellsUptoCard

/-- THE SECOND FORM's CARD OF 'dragomanlaw.SessionHolds'. -/
def sessionHoldsUptoCard : Claim7 := { stood := { row := sessionHoldsUptoRow, standIns := [], harness := (true, "8dbf1e598956d3d814bdf5aef1836749a8d3ae88d8b773a2a2078d21c072621e"), looks := false }, kinds := [], alts := [], laidByText := true, laidKinds := [.data, .pinned], laidTests := true, laidLooks := .later }
def SessionHoldsUptoCardSaid : Prop := Claim7.holds Tryd.pinned (.plain (OpenSpec.upto sessionHoldsSpec)) sessionHoldsUptoCard

/-- THE SECOND FORM's CARD OF 'dragomanlaw.WatchTells'. -/
def watchTellsUptoCard : Claim7 := { stood := { row := watchTellsUptoRow, standIns := [], harness := (true, "8dbf1e598956d3d814bdf5aef1836749a8d3ae88d8b773a2a2078d21c072621e"), looks := false }, kinds := [], alts := [], laidByText := true, laidKinds := [.data, .pinned], laidTests := true, laidLooks := .later }
def WatchTellsUptoCardSaid : Prop := Claim7.holds Tryd.pinned (.plain (OpenSpec.upto watchTellsSpec)) watchTellsUptoCard
end Rows
end Go.Proofs.YtbodjfmbdddieaeDoor
