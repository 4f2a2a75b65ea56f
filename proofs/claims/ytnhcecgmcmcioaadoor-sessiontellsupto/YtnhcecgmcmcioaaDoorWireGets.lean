/-
  dragomanref.between: what it answers.
-/
import Derived.Test.YtnhcecgmcmcioaaDoorRows
import Derived.WalkKit
import Derived.ProofKit
import Derived.WalkSpells
import Derived.WalkLawsBesides
import Derived.Test.YtnhcecgmcmcioaaDoorWireMath
namespace Go.Proofs.YtnhcecgmcmcioaaDoor
open Go.RowKit

theorem between_any (n l m : Int) (w : World) :
    Calls Tryd.prog 32 #[.int .i64 n, .int .i64 l, .int .i64 m] w fun e w' => e = .returned (.bool (decide (l ≤ n) && decide (n ≤ m))) ∧ w' = w := by
  by_cases h1 : l ≤ n
  · go_enter Tryd.func32, Tryd.ntmps32
    go_wp2
    go_ret
    exact ⟨by simp [h1], rfl⟩
  · have hd : decide (l ≤ n) = false := by simpa using h1
    go_enter Tryd.func32, Tryd.ntmps32
    go_wp2
    go_ret
    exact ⟨by simp, rfl⟩
theorem between_yes (n l m : Int) (w : World) (h : l ≤ n ∧ n ≤ m) :
    Calls Tryd.prog 32 #[.int .i64 n, .int .i64 l, .int .i64 m] w fun e w' => e = .returned (.bool true) ∧ w' = w := by
  have := between_any n l m w
  rwa [show (decide (l ≤ n) && decide (n ≤ m)) = true by simp; omega] at this
theorem between_no (n l m : Int) (w : World) (h : ¬ (l ≤ n ∧ n ≤ m)) :
    Calls Tryd.prog 32 #[.int .i64 n, .int .i64 l, .int .i64 m] w fun e w' => e = .returned (.bool false) ∧ w' = w := by
  have := between_any n l m w
  rwa [show (decide (l ≤ n) && decide (n ≤ m)) = false by simp; omega] at this
end Go.Proofs.YtnhcecgmcmcioaaDoor
/-
  wire.isPlace: what it answers.
-/
namespace Go.Proofs.YtnhcecgmcmcioaaDoor
open Go.RowKit

end Go.Proofs.YtnhcecgmcmcioaaDoor
/-
  wire.Get: what it answers, for every text, place and count of bytes.
-/
namespace Go.Proofs.YtnhcecgmcmcioaaDoor
open Go.RowKit

theorem get_step (s : ByteArray) (a k : Nat) (hk : k ≤ 3) (h : a + k < s.size) :
    bits BinOp.or IntKind.i64 (wrap64 ((beN s a k : Int) * 256)) (wrap64 (s[a + k].toNat : Int)) = (beN s a (k + 1) : Int) := by
  have h1 := beN_lt s a k
  have h2 := pow256_le hk
  have h3 := s[a + k].toNat_lt
  rw [w64 _ (by omega), w64 _ (by omega), i64_or_byte _ _ (by omega) (by omega), beN, getD_byte s _ h]

end Go.Proofs.YtnhcecgmcmcioaaDoor
/-
  dragomanref.GetOf: what it answers, for every text, place and count of bytes.
-/
namespace Go.Proofs.YtnhcecgmcmcioaaDoor
open Go.RowKit

theorem getOf_step (s : ByteArray) (a k : Nat) (h : a + k < s.size) : (256 * (beN s a k : Int) + (s[a + k].toNat : Int)) = (beN s a (k + 1) : Int) := by
  rw [beN, getD_byte s _ h]; omega

end Go.Proofs.YtnhcecgmcmcioaaDoor
