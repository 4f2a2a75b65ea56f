/-
  dragomanref.LongOf: what it answers.
-/
import Derived.Test.YtgmjdelgocbcaacDoorWireRef
import Derived.Deep.RegionWith
namespace Go.Proofs.YtgmjdelgocbcaacDoor
open Go.RowKit

/-- string(b) of one byte that lies in memory -/
theorem conv_cell (w : World) (g : Nat) (x : Int) (h : w.cell? ⟨g, 0, none⟩ = some (.int .u8 x)) :
    (convert 66 9 (.slice (some ⟨g, 0, none⟩) 1 1)).run Tryd.prog w = .ok (.string (strOfNums [x])) w := by
  refine run_convert_bytes_arg (P := Tryd.prog) w 66 5 Tryd.underlying66 Tryd.underlying5 g 0 1 1 [x] rfl ?_ 9 Tryd.underlying9
  intro i hi
  obtain rfl : i = 0 := by omega
  exact h

theorem conv_below {w w1 : World} {x : Int} (hb : Below (w.alloc (.cells #[.int .u8 x] 5)).drew.heap.size (w.alloc (.cells #[.int .u8 x] 5)).drew w1) :
    (convert 66 9 (.slice (some ⟨w.heap.size, 0, none⟩) 1 1)).run Tryd.prog w1 = .ok (.string (strOfNums [x])) w1 :=
  conv_cell w1 w.heap.size x (by rw [hb.cell (by simp)]; simp)

end Go.Proofs.YtgmjdelgocbcaacDoor
