/-
  wire.Text, wire.GetText, dragomanref.TextOf and GetTextOf: what they answer.
-/
import Derived.Test.YtgmjdelgocbcaabDoorWireGets
import Derived.Test.YtgmjdelgocbcaabDoorWireRef
import Derived.Test.YtgmjdelgocbcaabDoorShelf
import Derived.WalkSpells
namespace Go.Proofs.YtgmjdelgocbcaabDoor
open Go.RowKit

/-- a text behind two bytes that tell how many it has -/
def textS (t : ByteArray) : ByteArray := strOfNums [(t.size : Int) / 256 % 256, (t.size : Int) % 256] ++ t

theorem ext_ext (s : ByteArray) (i n : Nat) (h : i + n ≤ s.size) : (s.extract i s.size).extract 0 n = s.extract i (i + n) := by
  rw [ByteArray.extract_extract]; congr 1; omega

theorem text_many (t : ByteArray) (w : World) (h : 65535 < (t.size : Int)) :
    Calls Tryd.prog 84 #[.string t] w fun e w' => e = .returned (.tuple #[.string ⟨#[]⟩, .int .i64 2]) ∧ w' = w := by
  go_enter Tryd.func84, Tryd.ntmps84
  go_wp2
  go_ret2
  exact ⟨rfl, rfl⟩

theorem text_ok (t : ByteArray) (w : World) (h : (t.size : Int) ≤ 65535) :
    Calls Tryd.prog 84 #[.string t] w fun e w' => e = .returned (.tuple #[.string (textS t), .int .i64 0]) ∧ Below w.heap.size w w' := by
  have hsz := strOfNums_size
  go_enter Tryd.func84, Tryd.ntmps84
  go_wp2_with (go_at_call 52; refine (number_2 _ _ (by omega) (by omega)).mono ?_; rintro e w1 ⟨rfl, hb⟩)
  go_ret2
  exact ⟨rfl, hb⟩

theorem textOf_ok (t : ByteArray) (w : World) (h : (t.size : Int) ≤ 65535) :
    Calls Tryd.prog 32 #[.string t] w fun e w' => e = .returned (.string (textS t)) ∧ Below w.heap.size w w' := by
  have hsz := strOfNums_size
  go_enter Tryd.func32, Tryd.ntmps32
  go_wp2_with (go_at_call 33; refine (numberOf_2 _ _ (by omega) (by omega)).mono ?_; rintro e w1 ⟨rfl, hb⟩)
  go_ret
  exact ⟨rfl, hb⟩

theorem clone_any (s : ByteArray) (w : World) (h : s.size ≤ 281474976710656) :
    Calls Tryd.prog 68 #[.string s] w fun e w' => e = .returned (.string s) ∧ Below w.heap.size w w' := by
  go_enter Tryd.func68, Tryd.ntmps68
  go_wp2_with (go_at_call 83; refine (Tryd.stringslite_Clone _ _ h).mono ?_; rintro e w1 ⟨rfl, hb⟩)
  go_ret
  exact ⟨rfl, hb⟩

theorem getText_range (s : ByteArray) (a : Int) (w : World) (hs : s.size ≤ maxLen) (h : ¬ (0 ≤ a ∧ a ≤ s.size)) :
    Calls Tryd.prog 92 #[.string s, .int .i64 a] w fun e w' => e = .returned (.tuple #[.string ⟨#[]⟩, .int .i64 0, .int .i64 3]) ∧ w' = w := by
  go_enter Tryd.func92, Tryd.ntmps92
  go_wp2_with (go_at_call 86; refine (get_range _ _ _ _ hs (by omega) (by omega) h).mono ?_; rintro e w1 ⟨rfl, rfl⟩)
  go_ret3
  exact ⟨rfl, rfl⟩

theorem getText_short (s : ByteArray) (a : Int) (w : World) (hs : s.size ≤ maxLen) (h : 0 ≤ a ∧ a ≤ s.size) (h2 : s.size < a + 2) :
    Calls Tryd.prog 92 #[.string s, .int .i64 a] w fun e w' => e = .returned (.tuple #[.string ⟨#[]⟩, .int .i64 0, .int .i64 8]) ∧ w' = w := by
  go_enter Tryd.func92, Tryd.ntmps92
  go_wp2_with (go_at_call 86; refine (get_short _ _ _ _ hs (by omega) (by omega) h (by omega)).mono ?_; rintro e w1 ⟨rfl, rfl⟩)
  go_ret3
  exact ⟨rfl, rfl⟩

theorem getText_cut (s : ByteArray) (a : Nat) (w : World) (hs : s.size ≤ maxLen) (h : a + 2 ≤ s.size) (h2 : s.size < a + 2 + beN s a 2) :
    Calls Tryd.prog 92 #[.string s, .int .i64 a] w fun e w' => e = .returned (.tuple #[.string ⟨#[]⟩, .int .i64 0, .int .i64 8]) ∧ w' = w := by
  have hs' := hs
  unfold maxLen at hs
  go_enter Tryd.func92, Tryd.ntmps92
  go_wp2_with (go_at_call 86; refine (get_ok s a 2 _ hs' (by omega) (by omega) (by omega)).mono ?_; rintro e w1 ⟨rfl, rfl⟩)
  go_ret3
  exact ⟨rfl, rfl⟩

theorem getText_ok (s : ByteArray) (a : Nat) (w : World) (hs : s.size ≤ maxLen) (h : a + 2 ≤ s.size) (h2 : a + 2 + beN s a 2 ≤ s.size) :
    Calls Tryd.prog 92 #[.string s, .int .i64 a] w fun e w' => e = .returned (.tuple #[.string (s.extract (a + 2) (a + 2 + beN s a 2)), .int .i64 (2 + (beN s a 2 : Int)), .int .i64 0]) ∧ Below w.heap.size w w' := by
  have hs' := hs
  unfold maxLen at hs
  have hn := beN_lt s a 2
  go_enter Tryd.func92, Tryd.ntmps92
  go_wp2_with (go_at_call 86; refine (get_ok s a 2 _ hs' (by omega) (by omega) (by omega)).mono ?_; rintro e w1 ⟨rfl, rfl⟩)
  refine (clone_any _ _ (by simp only [ByteArray.size_extract]; omega)).mono ?_
  rintro e w2 ⟨rfl, hb⟩
  go_wp2
  go_ret3
  exact ⟨by rw [ext_ext s (a + 2) (beN s a 2) h2]; rfl, hb⟩

theorem getTextOf_range (s : ByteArray) (a : Int) (w : World) (h : ¬ (0 ≤ a ∧ a ≤ s.size)) :
    Calls Tryd.prog 59 #[.string s, .int .i64 a] w fun e w' => e = .returned (.tuple #[.string ⟨#[]⟩, .int .i64 0, .int .i64 3]) ∧ w' = w := by
  go_enter Tryd.func59, Tryd.ntmps59
  go_wp2_with (go_at_call 60; refine (getOf_range _ _ _ _ (by omega) (by omega) h).mono ?_; rintro e w1 ⟨rfl, rfl⟩)
  go_ret3
  exact ⟨rfl, rfl⟩

theorem getTextOf_short (s : ByteArray) (a : Int) (w : World) (hs : s.size ≤ maxLen) (h : 0 ≤ a ∧ a ≤ s.size) (h2 : s.size < a + 2) :
    Calls Tryd.prog 59 #[.string s, .int .i64 a] w fun e w' => e = .returned (.tuple #[.string ⟨#[]⟩, .int .i64 0, .int .i64 8]) ∧ w' = w := by
  go_enter Tryd.func59, Tryd.ntmps59
  go_wp2_with (go_at_call 60; refine (getOf_short _ _ _ _ hs (by omega) (by omega) h (by omega)).mono ?_; rintro e w1 ⟨rfl, rfl⟩)
  go_ret3
  exact ⟨rfl, rfl⟩

theorem getTextOf_cut (s : ByteArray) (a : Nat) (w : World) (hs : s.size ≤ maxLen) (h : a + 2 ≤ s.size) (h2 : s.size < a + 2 + beN s a 2) :
    Calls Tryd.prog 59 #[.string s, .int .i64 a] w fun e w' => e = .returned (.tuple #[.string ⟨#[]⟩, .int .i64 0, .int .i64 8]) ∧ w' = w := by
  have hs' := hs
  unfold maxLen at hs
  go_enter Tryd.func59, Tryd.ntmps59
  go_wp2_with (go_at_call 60; refine (getOf_ok s a 2 _ hs' (by omega) (by omega) (by omega)).mono ?_; rintro e w1 ⟨rfl, rfl⟩)
  go_ret3
  exact ⟨rfl, rfl⟩

theorem getTextOf_ok (s : ByteArray) (a : Nat) (w : World) (hs : s.size ≤ maxLen) (h : a + 2 ≤ s.size) (h2 : a + 2 + beN s a 2 ≤ s.size) :
    Calls Tryd.prog 59 #[.string s, .int .i64 a] w fun e w' => e = .returned (.tuple #[.string (s.extract (a + 2) (a + 2 + beN s a 2)), .int .i64 (2 + (beN s a 2 : Int)), .int .i64 0]) ∧ w' = w := by
  have hs' := hs
  unfold maxLen at hs
  have hn := beN_lt s a 2
  go_enter Tryd.func59, Tryd.ntmps59
  go_wp2_with (go_at_call 60; refine (getOf_ok s a 2 _ hs' (by omega) (by omega) (by omega)).mono ?_; rintro e w1 ⟨rfl, rfl⟩)
  go_ret3
  exact ⟨by rw [Int.add_comm 2]; rfl, rfl⟩
end Go.Proofs.YtgmjdelgocbcaabDoor
