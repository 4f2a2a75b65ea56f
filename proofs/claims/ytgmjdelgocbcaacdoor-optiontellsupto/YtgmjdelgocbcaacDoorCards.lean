/-
  DERIVED. GIVEN WITH THE SEED: THE CARDS: each row of YtgmjdelgocbcaacDoorRows.lean that lists a variable, with what it lists TIED to the program's text (the seventh form; the later family's looks); each row that meets fmt, with fmt's text TOLD by the authors' own Lean function (tested against real Go, not proved from fmt's source: count such statements apart). THE CARD IS WHAT COUNTS. Prove the row's statement (the work); the ties are given (YtgmjdelgocbcaacDoorTie.lean); close each card by the builder's one call (the guide's Derived/Test/ToyasCard.lean, 'card_holds'). Laid BY PROGRAM, IN A SANDBOX (cutbox-door.mjs). By AI agents, Wed Nov 11 2026. No macro, syntax, notation, axiom, sorry.
-/
import Derived.Test.YtgmjdelgocbcaacDoorRows
import GoSem.ClaimSeven
namespace Go.Proofs.YtgmjdelgocbcaacDoor
namespace Rows

/-- THE TIED CARD OF 'dragomanlaw.OptionTwice'. -/
def optionTwiceCard : Claim7 := { stood := { row := optionTwiceRow, standIns := [], harness := (true, "9343dbe7bff013f2be0c439c3ba39a30358f2b04fd65a2b46f267f1499c2b6cd"), looks := false }, kinds := [], alts := [], laidByText := true, laidKinds := [.data, .pinned], laidTests := true, laidLooks := .later }
def OptionTwiceCardSaid : Prop := Claim7.holds Tryd.pinned (.plain (OpenSpec.ofChange optionTwiceSpec)) optionTwiceCard

/-- THE TIED CARD OF 'dragomanlaw.OptionTells'. -/
def optionTellsCard : Claim7 := { stood := { row := optionTellsRow, standIns := [], harness := (true, "9343dbe7bff013f2be0c439c3ba39a30358f2b04fd65a2b46f267f1499c2b6cd"), looks := false }, kinds := [], alts := [], laidByText := true, laidKinds := [.data, .pinned], laidTests := true, laidLooks := .later }
def OptionTellsCardSaid : Prop := Claim7.holds Tryd.pinned (.plain (OpenSpec.ofChange optionTellsSpec)) optionTellsCard

/-- THE TIED CARD OF 'dragomanlaw.OptionBack'. -/
def optionBackCard : Claim7 := { stood := { row := optionBackRow, standIns := [], harness := (true, "9343dbe7bff013f2be0c439c3ba39a30358f2b04fd65a2b46f267f1499c2b6cd"), looks := false }, kinds := [], alts := [], laidByText := true, laidKinds := [.data, .pinned], laidTests := true, laidLooks := .later }
def OptionBackCardSaid : Prop := Claim7.holds Tryd.pinned (.plain (OpenSpec.ofChange optionBackSpec)) optionBackCard

/-- THE SECOND FORM's CARD OF 'dragomanlaw.OptionTwice'. -/
def optionTwiceUptoCard : Claim7 := { stood := { row := optionTwiceUptoRow, standIns := [], harness := (true, "9343dbe7bff013f2be0c439c3ba39a30358f2b04fd65a2b46f267f1499c2b6cd"), looks := false }, kinds := [], alts := [], laidByText := true, laidKinds := [.data, .pinned], laidTests := true, laidLooks := .later }
def OptionTwiceUptoCardSaid : Prop := Claim7.holds Tryd.pinned (.plain (OpenSpec.upto optionTwiceSpec)) optionTwiceUptoCard

/-- THE SECOND FORM's CARD OF 'dragomanlaw.OptionTells'. -/
def optionTellsUptoCard : Claim7 := { stood := { row := optionTellsUptoRow, standIns := [], harness := (true, "9343dbe7bff013f2be0c439c3ba39a30358f2b04fd65a2b46f267f1499c2b6cd"), looks := false }, kinds := [], alts := [], laidByText := true, laidKinds := [.data, .pinned], laidTests := true, laidLooks := .later }
def OptionTellsUptoCardSaid : Prop := Claim7.holds Tryd.pinned (.plain (OpenSpec.upto optionTellsSpec)) optionTellsUptoCard

/-- THE SECOND FORM's CARD OF 'dragomanlaw.OptionBack'. -/
def optionBackUptoCard : Claim7 := { stood := { row := optionBackUptoRow, standIns := [], harness := (true, "9343dbe7bff013f2be0c439c3ba39a30358f2b04fd65a2b46f267f1499c2b6cd"), looks := false }, kinds := [], alts := [], laidByText := true, laidKinds := [.data, .pinned], laidTests := true, laidLooks := .later }
def OptionBackUptoCardSaid : Prop := Claim7.holds Tryd.pinned (.plain (OpenSpec.upto optionBackSpec)) optionBackUptoCard
end Rows
end Go.Proofs.YtgmjdelgocbcaacDoor
