/-
  dragomanref.power, NumberErr, NumberOf: what they answer.
-/
import Derived.Test.YtgmjdelgocbcaacDoorWireNumber
namespace Go.Proofs.YtgmjdelgocbcaacDoor
open Go.RowKit

/-- string([]byte{x}), the block new -/
theorem conv_one (w : World) (g : Nat) (x : Int) (hg : g = w.heap.size) :
    (convert 66 9 (.slice (some ⟨g, 0, none⟩) 1 1)).run Tryd.prog (w.alloc (.cells #[.int .u8 x] 5)) = .ok (.string (strOfNums [x])) (w.alloc (.cells #[.int .u8 x] 5)) := by
  subst hg; exact conv_new w [x] 1 rfl

end Go.Proofs.YtgmjdelgocbcaacDoor
