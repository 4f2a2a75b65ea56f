/-
  Small facts that all proofs of this seat use (no program in it).
-/
import Derived.Below
namespace Go.Proofs.YtbodjfmbdddieaeDoor
open Go.RowKit

theorem hide {p : Prop} (h : p) : Hid p := h
theorem below_of_eq {w w' : World} (h : w' = w) : Below w.heap.size w w' := by subst h; exact Below.refl _ _
theorem below_step {W a b : World} (h : Below W.heap.size W a) (k : Below a.heap.size a b) : Below W.heap.size W b := h.trans (k.mono h.size)
end Go.Proofs.YtbodjfmbdddieaeDoor
