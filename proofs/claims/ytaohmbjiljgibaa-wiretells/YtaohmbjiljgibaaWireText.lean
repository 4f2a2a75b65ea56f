/-
  wire.Text, wire.GetText, dragomanref.TextOf and GetTextOf: what they answer.
-/
import Derived.Test.YtaohmbjiljgibaaWireGet
import Derived.Test.YtaohmbjiljgibaaWireGetOf
import Derived.Test.YtaohmbjiljgibaaWireRef
import Derived.Test.YtaohmbjiljgibaaShelf
import Derived.WalkSpells
namespace Go.Proofs.Ytaohmbjiljgibaa
open Go.RowKit

/-- a text behind two bytes that tell how many it has -/
def textS (t : ByteArray) : ByteArray := strOfNums [(t.size : Int) / 256 % 256, (t.size : Int) % 256] ++ t

theorem ext_ext (s : ByteArray) (i n : Nat) (h : i + n ≤ s.size) : (s.extract i s.size).extract 0 n = s.extract i (i + n) := by
  rw [ByteArray.extract_extract]; congr 1; omega

theorem text_many (t : ByteArray) (w : World) (h : 65535 < (t.size : Int)) :
    Calls Try.prog 9 #[.string t] w fun e w' => e = .returned (.tuple #[.string ⟨#[]⟩, .int .i64 2]) ∧ w' = w := by
  go_enter Try.func9, Try.ntmps9
  go_wp2
  go_ret2
  exact ⟨rfl, rfl⟩

theorem text_ok (t : ByteArray) (w : World) (h : (t.size : Int) ≤ 65535) :
    Calls Try.prog 9 #[.string t] w fun e w' => e = .returned (.tuple #[.string (textS t), .int .i64 0]) ∧ Below w.heap.size w w' := by
  have hsz := strOfNums_size
  go_enter Try.func9, Try.ntmps9
  go_wp2_with (go_at_call 5; refine (number_2 _ _ (by omega) (by omega)).mono ?_; rintro e w1 ⟨rfl, hb⟩)
  go_ret2
  exact ⟨rfl, hb⟩

theorem textOf_ok (t : ByteArray) (w : World) (h : (t.size : Int) ≤ 65535) :
    Calls Try.prog 14 #[.string t] w fun e w' => e = .returned (.string (textS t)) ∧ Below w.heap.size w w' := by
  have hsz := strOfNums_size
  go_enter Try.func14, Try.ntmps14
  go_wp2_with (go_at_call 12; refine (numberOf_2 _ _ (by omega) (by omega)).mono ?_; rintro e w1 ⟨rfl, hb⟩)
  go_ret
  exact ⟨rfl, hb⟩

theorem clone_any (s : ByteArray) (w : World) (h : s.size ≤ 281474976710656) :
    Calls Try.prog 20 #[.string s] w fun e w' => e = .returned (.string s) ∧ Below w.heap.size w w' := by
  go_enter Try.func20, Try.ntmps20
  go_wp2_with (go_at_call 23; refine (Try.stringslite_Clone _ _ h).mono ?_; rintro e w1 ⟨rfl, hb⟩)
  go_ret
  exact ⟨rfl, hb⟩

theorem getText_range (s : ByteArray) (a : Int) (w : World) (hs : s.size ≤ maxLen) (h : ¬ (0 ≤ a ∧ a ≤ s.size)) :
    Calls Try.prog 10 #[.string s, .int .i64 a] w fun e w' => e = .returned (.tuple #[.string ⟨#[]⟩, .int .i64 0, .int .i64 3]) ∧ w' = w := by
  go_enter Try.func10, Try.ntmps10
  go_wp2_with (go_at_call 6; refine (get_range _ _ _ _ hs (by omega) (by omega) h).mono ?_; rintro e w1 ⟨rfl, rfl⟩)
  go_ret3
  exact ⟨rfl, rfl⟩

theorem getText_short (s : ByteArray) (a : Int) (w : World) (hs : s.size ≤ maxLen) (h : 0 ≤ a ∧ a ≤ s.size) (h2 : s.size < a + 2) :
    Calls Try.prog 10 #[.string s, .int .i64 a] w fun e w' => e = .returned (.tuple #[.string ⟨#[]⟩, .int .i64 0, .int .i64 8]) ∧ w' = w := by
  go_enter Try.func10, Try.ntmps10
  go_wp2_with (go_at_call 6; refine (get_short _ _ _ _ hs (by omega) (by omega) h (by omega)).mono ?_; rintro e w1 ⟨rfl, rfl⟩)
  go_ret3
  exact ⟨rfl, rfl⟩

theorem getText_cut (s : ByteArray) (a : Nat) (w : World) (hs : s.size ≤ maxLen) (h : a + 2 ≤ s.size) (h2 : s.size < a + 2 + beN s a 2) :
    Calls Try.prog 10 #[.string s, .int .i64 a] w fun e w' => e = .returned (.tuple #[.string ⟨#[]⟩, .int .i64 0, .int .i64 8]) ∧ w' = w := by
  have hs' := hs
  unfold maxLen at hs
  go_enter Try.func10, Try.ntmps10
  go_wp2_with (go_at_call 6; refine (get_ok s a 2 _ hs' (by omega) (by omega) (by omega)).mono ?_; rintro e w1 ⟨rfl, rfl⟩)
  go_ret3
  exact ⟨rfl, rfl⟩

theorem getText_ok (s : ByteArray) (a : Nat) (w : World) (hs : s.size ≤ maxLen) (h : a + 2 ≤ s.size) (h2 : a + 2 + beN s a 2 ≤ s.size) :
    Calls Try.prog 10 #[.string s, .int .i64 a] w fun e w' => e = .returned (.tuple #[.string (s.extract (a + 2) (a + 2 + beN s a 2)), .int .i64 (2 + (beN s a 2 : Int)), .int .i64 0]) ∧ Below w.heap.size w w' := by
  have hs' := hs
  unfold maxLen at hs
  have hn := beN_lt s a 2
  go_enter Try.func10, Try.ntmps10
  go_wp2_with (go_at_call 6; refine (get_ok s a 2 _ hs' (by omega) (by omega) (by omega)).mono ?_; rintro e w1 ⟨rfl, rfl⟩)
  refine (clone_any _ _ (by simp only [ByteArray.size_extract]; omega)).mono ?_
  rintro e w2 ⟨rfl, hb⟩
  go_wp2
  go_ret3
  exact ⟨by rw [ext_ext s (a + 2) (beN s a 2) h2]; rfl, hb⟩

theorem getTextOf_range (s : ByteArray) (a : Int) (w : World) (h : ¬ (0 ≤ a ∧ a ≤ s.size)) :
    Calls Try.prog 17 #[.string s, .int .i64 a] w fun e w' => e = .returned (.tuple #[.string ⟨#[]⟩, .int .i64 0, .int .i64 3]) ∧ w' = w := by
  go_enter Try.func17, Try.ntmps17
  go_wp2_with (go_at_call 15; refine (getOf_range _ _ _ _ (by omega) (by omega) h).mono ?_; rintro e w1 ⟨rfl, rfl⟩)
  go_ret3
  exact ⟨rfl, rfl⟩

theorem getTextOf_short (s : ByteArray) (a : Int) (w : World) (hs : s.size ≤ maxLen) (h : 0 ≤ a ∧ a ≤ s.size) (h2 : s.size < a + 2) :
    Calls Try.prog 17 #[.string s, .int .i64 a] w fun e w' => e = .returned (.tuple #[.string ⟨#[]⟩, .int .i64 0, .int .i64 8]) ∧ w' = w := by
  go_enter Try.func17, Try.ntmps17
  go_wp2_with (go_at_call 15; refine (getOf_short _ _ _ _ hs (by omega) (by omega) h (by omega)).mono ?_; rintro e w1 ⟨rfl, rfl⟩)
  go_ret3
  exact ⟨rfl, rfl⟩

theorem getTextOf_cut (s : ByteArray) (a : Nat) (w : World) (hs : s.size ≤ maxLen) (h : a + 2 ≤ s.size) (h2 : s.size < a + 2 + beN s a 2) :
    Calls Try.prog 17 #[.string s, .int .i64 a] w fun e w' => e = .returned (.tuple #[.string ⟨#[]⟩, .int .i64 0, .int .i64 8]) ∧ w' = w := by
  have hs' := hs
  unfold maxLen at hs
  go_enter Try.func17, Try.ntmps17
  go_wp2_with (go_at_call 15; refine (getOf_ok s a 2 _ hs' (by omega) (by omega) (by omega)).mono ?_; rintro e w1 ⟨rfl, rfl⟩)
  go_ret3
  exact ⟨rfl, rfl⟩

theorem getTextOf_ok (s : ByteArray) (a : Nat) (w : World) (hs : s.size ≤ maxLen) (h : a + 2 ≤ s.size) (h2 : a + 2 + beN s a 2 ≤ s.size) :
    Calls Try.prog 17 #[.string s, .int .i64 a] w fun e w' => e = .returned (.tuple #[.string (s.extract (a + 2) (a + 2 + beN s a 2)), .int .i64 (2 + (beN s a 2 : Int)), .int .i64 0]) ∧ w' = w := by
  have hs' := hs
  unfold maxLen at hs
  have hn := beN_lt s a 2
  go_enter Try.func17, Try.ntmps17
  go_wp2_with (go_at_call 15; refine (getOf_ok s a 2 _ hs' (by omega) (by omega) (by omega)).mono ?_; rintro e w1 ⟨rfl, rfl⟩)
  go_ret3
  exact ⟨by rw [Int.add_comm 2]; rfl, rfl⟩
end Go.Proofs.Ytaohmbjiljgibaa
