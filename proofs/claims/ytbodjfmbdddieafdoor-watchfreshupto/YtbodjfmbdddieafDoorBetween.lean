/-
  dragomanref.between: what it answers.
-/
import Derived.Test.YtbodjfmbdddieafDoorRows
import Derived.WalkKit
import Derived.ProofKit
import Derived.WalkSpells
import Derived.WalkLawsBesides
namespace Go.Proofs.YtbodjfmbdddieafDoor
open Go.RowKit

theorem between_any (n l m : Int) (w : World) :
    Calls Tryd.prog 16 #[.int .i64 n, .int .i64 l, .int .i64 m] w fun e w' => e = .returned (.bool (decide (l ≤ n) && decide (n ≤ m))) ∧ w' = w := by
  by_cases h1 : l ≤ n
  · go_enter Tryd.func16, Tryd.ntmps16
    go_wp2
    go_ret
    exact ⟨by simp [h1], rfl⟩
  · have hd : decide (l ≤ n) = false := by simpa using h1
    go_enter Tryd.func16, Tryd.ntmps16
    go_wp2
    go_ret
    exact ⟨by simp, rfl⟩
theorem between_yes (n l m : Int) (w : World) (h : l ≤ n ∧ n ≤ m) :
    Calls Tryd.prog 16 #[.int .i64 n, .int .i64 l, .int .i64 m] w fun e w' => e = .returned (.bool true) ∧ w' = w := by
  have := between_any n l m w
  rwa [show (decide (l ≤ n) && decide (n ≤ m)) = true by simp; omega] at this
theorem between_no (n l m : Int) (w : World) (h : ¬ (l ≤ n ∧ n ≤ m)) :
    Calls Tryd.prog 16 #[.int .i64 n, .int .i64 l, .int .i64 m] w fun e w' => e = .returned (.bool false) ∧ w' = w := by
  have := between_any n l m w
  rwa [show (decide (l ≤ n) && decide (n ≤ m)) = false by simp; omega] at this
end Go.Proofs.YtbodjfmbdddieafDoor
