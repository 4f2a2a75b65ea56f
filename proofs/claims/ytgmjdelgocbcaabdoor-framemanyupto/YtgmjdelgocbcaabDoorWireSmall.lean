/-
  wire.isPlace: what it answers.
-/
import Derived.Test.YtgmjdelgocbcaabDoorBetween
import Derived.WalkKit
import Derived.ProofKit
import Derived.WalkSpells
import Derived.WalkLawsBesides
namespace Go.Proofs.YtgmjdelgocbcaabDoor
open Go.RowKit

theorem isPlace_any (s : ByteArray) (at_ : Int) (w : World) :
    Calls Tryd.prog 71 #[.string s, .int .i64 at_] w fun e w' => e = .returned (.bool (decide (0 ≤ at_) && decide (at_ ≤ s.size))) ∧ w' = w := by
  by_cases h1 : 0 ≤ at_
  · go_enter Tryd.func71, Tryd.ntmps71
    go_wp2
    go_ret
    exact ⟨by simp [h1], rfl⟩
  · have hd : decide (0 ≤ at_) = false := by simpa using h1
    go_enter Tryd.func71, Tryd.ntmps71
    go_wp2
    go_ret
    exact ⟨by simp, rfl⟩

theorem isPlace_yes (s : ByteArray) (at_ : Int) (w : World) (h : 0 ≤ at_ ∧ at_ ≤ s.size) :
    Calls Tryd.prog 71 #[.string s, .int .i64 at_] w fun e w' => e = .returned (.bool true) ∧ w' = w := by
  have := isPlace_any s at_ w
  rwa [show (decide (0 ≤ at_) && decide (at_ ≤ s.size)) = true by simp; omega] at this
theorem isPlace_no (s : ByteArray) (at_ : Int) (w : World) (h : ¬ (0 ≤ at_ ∧ at_ ≤ s.size)) :
    Calls Tryd.prog 71 #[.string s, .int .i64 at_] w fun e w' => e = .returned (.bool false) ∧ w' = w := by
  have := isPlace_any s at_ w
  rwa [show (decide (0 ≤ at_) && decide (at_ ≤ s.size)) = false by simp; omega] at this

end Go.Proofs.YtgmjdelgocbcaabDoor
