/-
  dragomanref.between: what it answers.
-/
import Derived.Test.YtnjdpibgfbbkcabGreatDoorRows
import Derived.WalkKit
import Derived.ProofKit
import Derived.WalkSpells
import Derived.WalkLawsBesides
import Derived.Test.YtnjdpibgfbbkcabGreatDoorWireMath
namespace Go.Proofs.YtnjdpibgfbbkcabGreatDoor
open Go.RowKit

theorem between_any (n l m : Int) (w : World) :
    Calls Tryz.prog 21 #[.int .i64 n, .int .i64 l, .int .i64 m] w fun e w' => e = .returned (.bool (decide (l ≤ n) && decide (n ≤ m))) ∧ w' = w := by
  by_cases h1 : l ≤ n
  · go_enter Tryz.func21, Tryz.ntmps21
    go_wp2
    go_ret
    exact ⟨by simp [h1], rfl⟩
  · have hd : decide (l ≤ n) = false := by simpa using h1
    go_enter Tryz.func21, Tryz.ntmps21
    go_wp2
    go_ret
    exact ⟨by simp, rfl⟩
theorem between_yes (n l m : Int) (w : World) (h : l ≤ n ∧ n ≤ m) :
    Calls Tryz.prog 21 #[.int .i64 n, .int .i64 l, .int .i64 m] w fun e w' => e = .returned (.bool true) ∧ w' = w := by
  have := between_any n l m w
  rwa [show (decide (l ≤ n) && decide (n ≤ m)) = true by simp; omega] at this
theorem between_no (n l m : Int) (w : World) (h : ¬ (l ≤ n ∧ n ≤ m)) :
    Calls Tryz.prog 21 #[.int .i64 n, .int .i64 l, .int .i64 m] w fun e w' => e = .returned (.bool false) ∧ w' = w := by
  have := between_any n l m w
  rwa [show (decide (l ≤ n) && decide (n ≤ m)) = false by simp; omega] at this
end Go.Proofs.YtnjdpibgfbbkcabGreatDoor
/-
  wire.isPlace: what it answers.
-/
namespace Go.Proofs.YtnjdpibgfbbkcabGreatDoor
open Go.RowKit

theorem isPlace_any (s : ByteArray) (at_ : Int) (w : World) :
    Calls Tryz.prog 64 #[.string s, .int .i64 at_] w fun e w' => e = .returned (.bool (decide (0 ≤ at_) && decide (at_ ≤ s.size))) ∧ w' = w := by
  by_cases h1 : 0 ≤ at_
  · go_enter Tryz.func64, Tryz.ntmps64
    go_wp2
    go_ret
    exact ⟨by simp [h1], rfl⟩
  · have hd : decide (0 ≤ at_) = false := by simpa using h1
    go_enter Tryz.func64, Tryz.ntmps64
    go_wp2
    go_ret
    exact ⟨by simp, rfl⟩

theorem isPlace_yes (s : ByteArray) (at_ : Int) (w : World) (h : 0 ≤ at_ ∧ at_ ≤ s.size) :
    Calls Tryz.prog 64 #[.string s, .int .i64 at_] w fun e w' => e = .returned (.bool true) ∧ w' = w := by
  have := isPlace_any s at_ w
  rwa [show (decide (0 ≤ at_) && decide (at_ ≤ s.size)) = true by simp; omega] at this
theorem isPlace_no (s : ByteArray) (at_ : Int) (w : World) (h : ¬ (0 ≤ at_ ∧ at_ ≤ s.size)) :
    Calls Tryz.prog 64 #[.string s, .int .i64 at_] w fun e w' => e = .returned (.bool false) ∧ w' = w := by
  have := isPlace_any s at_ w
  rwa [show (decide (0 ≤ at_) && decide (at_ ≤ s.size)) = false by simp; omega] at this

end Go.Proofs.YtnjdpibgfbbkcabGreatDoor
/-
  wire.Get: what it answers, for every text, place and count of bytes.
-/
namespace Go.Proofs.YtnjdpibgfbbkcabGreatDoor
open Go.RowKit

theorem get_step (s : ByteArray) (a k : Nat) (hk : k ≤ 3) (h : a + k < s.size) :
    bits BinOp.or IntKind.i64 (wrap64 ((beN s a k : Int) * 256)) (wrap64 (s[a + k].toNat : Int)) = (beN s a (k + 1) : Int) := by
  have h1 := beN_lt s a k
  have h2 := pow256_le hk
  have h3 := s[a + k].toNat_lt
  rw [w64 _ (by omega), w64 _ (by omega), i64_or_byte _ _ (by omega) (by omega), beN, getD_byte s _ h]

set_option maxHeartbeats 400000 in
theorem get_ok (s : ByteArray) (a b : Nat) (w : World) (hs : s.size ≤ maxLen) (hb1 : 1 ≤ b) (hb4 : b ≤ 4) (hab : a + b ≤ s.size) :
    Calls Tryz.prog 82 #[.string s, .int .i64 a, .int .i64 b] w fun e w' => e = .returned (.tuple #[.int .i64 (beN s a b), .int .i64 0]) ∧ w' = w := by
  have hs' := hs
  unfold maxLen at hs
  have h1 : decide ((b : Int) < 1) = false := by simp; omega
  go_enter Tryz.func82, Tryz.ntmps82
  go_wp2_with (go_at_call 64; refine (isPlace_yes _ _ _ (by omega)).mono ?_; rintro e w' ⟨rfl, rfl⟩)
  go_loop [8, 9] (fun n i => ∃ k : Nat, k ≤ b ∧ i = .int .i64 k ∧ n = .int .i64 (beN s a k)) (fun _ i => b - (intOf i).toNat)
  case atStart => exact ⟨0, Nat.zero_le _, rfl, rfl⟩
  case round =>
    obtain ⟨k, hk, rfl, rfl⟩ := hrel
    by_cases hlt : k < b
    · go_wp2
      go_round
      case rel => exact ⟨k + 1, by omega, by go_num, by rw [get_step s a k (by omega) (by omega)]⟩
      case measure => simp [intOf]; omega
    · go_wp2
      go_ret2
      have : k = b := by omega
      subst this
      exact ⟨rfl, rfl⟩

theorem get_kind (s : ByteArray) (a b : Int) (w : World) (h : b < 1 ∨ 4 < b) :
    Calls Tryz.prog 82 #[.string s, .int .i64 a, .int .i64 b] w fun e w' => e = .returned (.tuple #[.int .i64 0, .int .i64 7]) ∧ w' = w := by
  by_cases h1 : b < 1
  · go_enter Tryz.func82, Tryz.ntmps82
    go_wp2
    go_ret2
    exact ⟨rfl, rfl⟩
  · have h1' : decide (b < 1) = false := by simp; omega
    have h2 : 4 < b := by omega
    go_enter Tryz.func82, Tryz.ntmps82
    go_wp2
    go_ret2
    exact ⟨rfl, rfl⟩

theorem get_range (s : ByteArray) (a b : Int) (w : World) (_hs : s.size ≤ maxLen) (h1 : 1 ≤ b) (h4 : b ≤ 4) (h : ¬ (0 ≤ a ∧ a ≤ s.size)) :
    Calls Tryz.prog 82 #[.string s, .int .i64 a, .int .i64 b] w fun e w' => e = .returned (.tuple #[.int .i64 0, .int .i64 3]) ∧ w' = w := by
  have h1' : decide (b < 1) = false := by simp; omega
  go_enter Tryz.func82, Tryz.ntmps82
  go_wp2_with (go_at_call 64; refine (isPlace_no _ _ _ h).mono ?_; rintro e w' ⟨rfl, rfl⟩)
  go_ret2
  exact ⟨rfl, rfl⟩

theorem get_short (s : ByteArray) (a b : Int) (w : World) (hs : s.size ≤ maxLen) (h1 : 1 ≤ b) (h4 : b ≤ 4) (h : 0 ≤ a ∧ a ≤ s.size) (hsh : s.size < a + b) :
    Calls Tryz.prog 82 #[.string s, .int .i64 a, .int .i64 b] w fun e w' => e = .returned (.tuple #[.int .i64 0, .int .i64 8]) ∧ w' = w := by
  have hs' := hs
  unfold maxLen at hs
  have h1' : decide (b < 1) = false := by simp; omega
  go_enter Tryz.func82, Tryz.ntmps82
  go_wp2_with (go_at_call 64; refine (isPlace_yes _ _ _ h).mono ?_; rintro e w' ⟨rfl, rfl⟩)
  go_ret2
  exact ⟨rfl, rfl⟩
end Go.Proofs.YtnjdpibgfbbkcabGreatDoor
/-
  dragomanref.GetOf: what it answers, for every text, place and count of bytes.
-/
namespace Go.Proofs.YtnjdpibgfbbkcabGreatDoor
open Go.RowKit

theorem getOf_step (s : ByteArray) (a k : Nat) (h : a + k < s.size) : (256 * (beN s a k : Int) + (s[a + k].toNat : Int)) = (beN s a (k + 1) : Int) := by
  rw [beN, getD_byte s _ h]; omega

set_option maxHeartbeats 400000 in
theorem getOf_ok (s : ByteArray) (a b : Nat) (w : World) (hs : s.size ≤ maxLen) (hb1 : 1 ≤ b) (hb4 : b ≤ 4) (hab : a + b ≤ s.size) :
    Calls Tryz.prog 44 #[.string s, .int .i64 a, .int .i64 b] w fun e w' => e = .returned (.tuple #[.int .i64 (beN s a b), .int .i64 0]) ∧ w' = w := by
  unfold maxLen at hs
  go_enter Tryz.func44, Tryz.ntmps44
  go_wp2_with (go_at_call 21; refine (between_yes _ _ _ _ (by omega)).mono ?_; rintro e w' ⟨rfl, rfl⟩)
  go_loop [8, 9] (fun n i => ∃ k : Nat, k ≤ b ∧ i = .int .i64 k ∧ n = .int .i64 (beN s a k)) (fun _ i => b - (intOf i).toNat)
  case atStart => exact ⟨0, Nat.zero_le _, rfl, rfl⟩
  case round =>
    obtain ⟨k, hk, rfl, rfl⟩ := hrel
    by_cases hlt : k < b
    · have h1 := beN_lt s a k
      have h2 := pow256_le (show k ≤ 3 by omega)
      have hn : (beN s a k : Int) ≤ 16777215 := by omega
      clear h1 h2
      go_wp2
      go_round
      case rel =>
        have hb := s[a + k].toNat_lt
        refine ⟨k + 1, by omega, by go_num, ?_⟩
        rw [← getOf_step s a k (by omega)]
        first | rfl | go_num | (simp only [w64 _ (show -9223372036854775808 ≤ (s[a + k].toNat : Int) ∧ (s[a + k].toNat : Int) ≤ 9223372036854775807 by omega)]; first | rfl | (rw [w64 _ (by omega)]))
      case measure => simp [intOf]; omega
    · go_wp2
      go_ret2
      have : k = b := by omega
      subst this
      exact ⟨rfl, rfl⟩

theorem getOf_kind (s : ByteArray) (a b : Int) (w : World) (h : b < 1 ∨ 4 < b) :
    Calls Tryz.prog 44 #[.string s, .int .i64 a, .int .i64 b] w fun e w' => e = .returned (.tuple #[.int .i64 0, .int .i64 7]) ∧ w' = w := by
  go_enter Tryz.func44, Tryz.ntmps44
  go_wp2_with (go_at_call 21; refine (between_no _ _ _ _ (by omega)).mono ?_; rintro e w' ⟨rfl, rfl⟩)
  go_ret2
  exact ⟨rfl, rfl⟩

theorem getOf_range (s : ByteArray) (a b : Int) (w : World) (h1 : 1 ≤ b) (h4 : b ≤ 4) (h : ¬ (0 ≤ a ∧ a ≤ s.size)) :
    Calls Tryz.prog 44 #[.string s, .int .i64 a, .int .i64 b] w fun e w' => e = .returned (.tuple #[.int .i64 0, .int .i64 3]) ∧ w' = w := by
  go_enter Tryz.func44, Tryz.ntmps44
  go_wp2_with fail
  refine (between_yes _ _ _ _ (by omega)).mono ?_
  rintro e w' ⟨rfl, rfl⟩
  go_wp2_with fail
  refine (between_no _ _ _ _ h).mono ?_
  rintro e w' ⟨rfl, rfl⟩
  go_wp2
  go_ret2
  exact ⟨rfl, rfl⟩

theorem getOf_short (s : ByteArray) (a b : Int) (w : World) (_hs : s.size ≤ maxLen) (h1 : 1 ≤ b) (h4 : b ≤ 4) (h : 0 ≤ a ∧ a ≤ s.size) (hsh : s.size < a + b) :
    Calls Tryz.prog 44 #[.string s, .int .i64 a, .int .i64 b] w fun e w' => e = .returned (.tuple #[.int .i64 0, .int .i64 8]) ∧ w' = w := by
  unfold maxLen at _hs
  go_enter Tryz.func44, Tryz.ntmps44
  go_wp2_with (go_at_call 21; refine (between_yes _ _ _ _ (by omega)).mono ?_; rintro e w' ⟨rfl, rfl⟩)
  go_ret2
  exact ⟨rfl, rfl⟩
end Go.Proofs.YtnjdpibgfbbkcabGreatDoor
