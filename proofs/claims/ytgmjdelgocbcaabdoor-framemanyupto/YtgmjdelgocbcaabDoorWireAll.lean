/-
  dragomanlaw.wireBegun answers true.
-/
import Derived.Test.YtgmjdelgocbcaabDoorWireText
import Derived.Test.YtgmjdelgocbcaabDoorWireLong
import Derived.Test.YtgmjdelgocbcaabDoorWireGetLongs
import Derived.Test.YtgmjdelgocbcaabDoorWireLongOf
namespace Go.Proofs.YtgmjdelgocbcaabDoor
open Go.RowKit

theorem b_number (w : World) : Calls Tryd.prog 52 #[.int .i64 258, .int .i64 2] w fun e w' => e = .returned (.tuple #[.string ⟨#[1, 2]⟩, .int .i64 0]) ∧ Below w.heap.size w w' :=
  number_2 258 w (by omega) (by omega)
theorem b_get (w : World) : Calls Tryd.prog 86 #[.string ⟨#[1, 2]⟩, .int .i64 0, .int .i64 2] w fun e w' => e = .returned (.tuple #[.int .i64 258, .int .i64 0]) ∧ w' = w :=
  get_ok ⟨#[1, 2]⟩ 0 2 w (by decide) (by omega) (by omega) (by decide)
theorem b_long (w : World) : Calls Tryd.prog 20 #[.int .i64 321] w fun e w' => e = .returned (.tuple #[.string ⟨#[193, 2]⟩, .int .i64 0]) ∧ Below w.heap.size w w' :=
  long_ok 321 w (by omega)
theorem b_getLong (w : World) : Calls Tryd.prog 54 #[.string ⟨#[193, 2]⟩, .int .i64 0] w fun e w' => e = .returned (.tuple #[.int .i64 321, .int .i64 2, .int .i64 0]) ∧ w' = w :=
  getLong_in ⟨#[193, 2]⟩ 0 w (by decide) (by decide)
theorem b_text (w : World) : Calls Tryd.prog 84 #[.string ⟨#[104, 105]⟩] w fun e w' => e = .returned (.tuple #[.string ⟨#[0, 2, 104, 105]⟩, .int .i64 0]) ∧ Below w.heap.size w w' :=
  text_ok ⟨#[104, 105]⟩ w (by decide)
theorem b_getText (w : World) : Calls Tryd.prog 92 #[.string ⟨#[120, 0, 2, 104, 105]⟩, .int .i64 1] w fun e w' => e = .returned (.tuple #[.string ⟨#[104, 105]⟩, .int .i64 4, .int .i64 0]) ∧ Below w.heap.size w w' :=
  getText_ok ⟨#[120, 0, 2, 104, 105]⟩ 1 w (by decide) (by decide) (by decide)

end Go.Proofs.YtgmjdelgocbcaabDoor
/-
  What the calls of package wire, and the reference's, answer: one statement a call, for every argument.
-/
namespace Go.Proofs.YtgmjdelgocbcaabDoor
open Go.RowKit

/-- what Get answers -/
def getR (s : ByteArray) (a b : Int) : Int × Int :=
  if b < 1 ∨ 4 < b then (0, 7) else if ¬ (0 ≤ a ∧ a ≤ s.size) then (0, 3) else if (s.size : Int) < a + b then (0, 8) else (beN s a.toNat b.toNat, 0)
/-- what GetLong answers -/
def glR (s : ByteArray) (a : Int) : Int × Int × Int := if ¬ (0 ≤ a ∧ a ≤ s.size) then (0, 0, 3) else glGo s a.toNat 4 0 0
/-- what GetText answers -/
def gtR (s : ByteArray) (a : Int) : ByteArray × Int × Int :=
  if ¬ (0 ≤ a ∧ a ≤ s.size) then (⟨#[]⟩, 0, 3) else if (s.size : Int) < a + 2 then (⟨#[]⟩, 0, 8)
  else if s.size < a.toNat + 2 + beN s a.toNat 2 then (⟨#[]⟩, 0, 8) else (s.extract (a.toNat + 2) (a.toNat + 2 + beN s a.toNat 2), 2 + (beN s a.toNat 2 : Int), 0)

theorem get_any (s : ByteArray) (a b : Int) (w : World) (hs : s.size ≤ maxLen) :
    Calls Tryd.prog 86 #[.string s, .int .i64 a, .int .i64 b] w fun e w' => e = .returned (.tuple #[.int .i64 (getR s a b).1, .int .i64 (getR s a b).2]) ∧ w' = w := by
  unfold getR
  by_cases h1 : b < 1 ∨ 4 < b
  · rw [if_pos h1]; exact get_kind s a b w h1
  · rw [if_neg h1]
    by_cases h2 : ¬ (0 ≤ a ∧ a ≤ s.size)
    · rw [if_pos h2]; exact get_range s a b w hs (by omega) (by omega) h2
    · rw [if_neg h2]
      by_cases h3 : (s.size : Int) < a + b
      · rw [if_pos h3]; exact get_short s a b w hs (by omega) (by omega) (by omega) h3
      · rw [if_neg h3]
        obtain ⟨A, rfl⟩ := Int.eq_ofNat_of_zero_le (show 0 ≤ a by omega)
        obtain ⟨B, rfl⟩ := Int.eq_ofNat_of_zero_le (show 0 ≤ b by omega)
        exact get_ok s A B w hs (by omega) (by omega) (by omega)

theorem getOf_any (s : ByteArray) (a b : Int) (w : World) (hs : s.size ≤ maxLen) :
    Calls Tryd.prog 60 #[.string s, .int .i64 a, .int .i64 b] w fun e w' => e = .returned (.tuple #[.int .i64 (getR s a b).1, .int .i64 (getR s a b).2]) ∧ w' = w := by
  unfold getR
  by_cases h1 : b < 1 ∨ 4 < b
  · rw [if_pos h1]; exact getOf_kind s a b w h1
  · rw [if_neg h1]
    by_cases h2 : ¬ (0 ≤ a ∧ a ≤ s.size)
    · rw [if_pos h2]; exact getOf_range s a b w (by omega) (by omega) h2
    · rw [if_neg h2]
      by_cases h3 : (s.size : Int) < a + b
      · rw [if_pos h3]; exact getOf_short s a b w hs (by omega) (by omega) (by omega) h3
      · rw [if_neg h3]
        obtain ⟨A, rfl⟩ := Int.eq_ofNat_of_zero_le (show 0 ≤ a by omega)
        obtain ⟨B, rfl⟩ := Int.eq_ofNat_of_zero_le (show 0 ≤ b by omega)
        exact getOf_ok s A B w hs (by omega) (by omega) (by omega)

theorem getLong_any (s : ByteArray) (a : Int) (w : World) (hs : s.size ≤ maxLen) :
    Calls Tryd.prog 54 #[.string s, .int .i64 a] w fun e w' => e = .returned (.tuple #[.int .i64 (glR s a).1, .int .i64 (glR s a).2.1, .int .i64 (glR s a).2.2]) ∧ w' = w := by
  unfold glR
  by_cases h2 : ¬ (0 ≤ a ∧ a ≤ s.size)
  · rw [if_pos h2]; exact getLong_out s a w hs h2
  · rw [if_neg h2]
    obtain ⟨A, rfl⟩ := Int.eq_ofNat_of_zero_le (show 0 ≤ a by omega)
    exact getLong_in s A w hs (by omega)

theorem getLongOf_any (s : ByteArray) (a : Int) (w : World) (hs : s.size ≤ maxLen) :
    Calls Tryd.prog 36 #[.string s, .int .i64 a] w fun e w' => e = .returned (.tuple #[.int .i64 (glR s a).1, .int .i64 (glR s a).2.1, .int .i64 (glR s a).2.2]) ∧ w' = w := by
  unfold glR
  by_cases h2 : ¬ (0 ≤ a ∧ a ≤ s.size)
  · rw [if_pos h2]; exact getLongOf_out s a w hs h2
  · rw [if_neg h2]
    obtain ⟨A, rfl⟩ := Int.eq_ofNat_of_zero_le (show 0 ≤ a by omega)
    exact getLongOf_in s A w hs (by omega)

theorem getText_any (s : ByteArray) (a : Int) (w : World) (hs : s.size ≤ maxLen) :
    Calls Tryd.prog 92 #[.string s, .int .i64 a] w fun e w' => e = .returned (.tuple #[.string (gtR s a).1, .int .i64 (gtR s a).2.1, .int .i64 (gtR s a).2.2]) ∧ Below w.heap.size w w' := by
  unfold gtR
  by_cases h2 : ¬ (0 ≤ a ∧ a ≤ s.size)
  · rw [if_pos h2]; exact (getText_range s a w hs h2).mono fun e w' h => ⟨h.1, below_of_eq h.2⟩
  · rw [if_neg h2]
    by_cases h3 : (s.size : Int) < a + 2
    · rw [if_pos h3]; exact (getText_short s a w hs (by omega) h3).mono fun e w' h => ⟨h.1, below_of_eq h.2⟩
    · rw [if_neg h3]
      obtain ⟨A, rfl⟩ := Int.eq_ofNat_of_zero_le (show 0 ≤ a by omega)
      simp only [Int.toNat_natCast]
      by_cases h4 : s.size < A + 2 + beN s A 2
      · rw [if_pos h4]; exact (getText_cut s A w hs (by omega) h4).mono fun e w' h => ⟨h.1, below_of_eq h.2⟩
      · rw [if_neg h4]; exact getText_ok s A w hs (by omega) (by omega)

theorem getTextOf_any (s : ByteArray) (a : Int) (w : World) (hs : s.size ≤ maxLen) :
    Calls Tryd.prog 59 #[.string s, .int .i64 a] w fun e w' => e = .returned (.tuple #[.string (gtR s a).1, .int .i64 (gtR s a).2.1, .int .i64 (gtR s a).2.2]) ∧ w' = w := by
  unfold gtR
  by_cases h2 : ¬ (0 ≤ a ∧ a ≤ s.size)
  · rw [if_pos h2]; exact getTextOf_range s a w h2
  · rw [if_neg h2]
    by_cases h3 : (s.size : Int) < a + 2
    · rw [if_pos h3]; exact getTextOf_short s a w hs (by omega) h3
    · rw [if_neg h3]
      obtain ⟨A, rfl⟩ := Int.eq_ofNat_of_zero_le (show 0 ≤ a by omega)
      simp only [Int.toNat_natCast]
      by_cases h4 : s.size < A + 2 + beN s A 2
      · rw [if_pos h4]; exact getTextOf_cut s A w hs (by omega) h4
      · rw [if_neg h4]; exact getTextOf_ok s A w hs (by omega) (by omega)

/-- the two calls on long numbers, the number in its place or not: what they answer is one -/
def longS (n : Int) : ByteArray := if n < 0 ∨ 268435455 < n then ⟨#[]⟩ else strOfNums (longL 3 n.toNat)
def longE (n : Int) : Int := if n < 0 ∨ 268435455 < n then 3 else 0
def txtS (t : ByteArray) : ByteArray := if 65535 < (t.size : Int) then ⟨#[]⟩ else textS t
def txtE (t : ByteArray) : Int := if 65535 < (t.size : Int) then 2 else 0

theorem long_any (n : Int) (w : World) :
    Calls Tryd.prog 20 #[.int .i64 n] w fun e w' => e = .returned (.tuple #[.string (longS n), .int .i64 (longE n)]) ∧ Below w.heap.size w w' := by
  unfold longS longE
  by_cases h : n < 0 ∨ 268435455 < n
  · rw [if_pos h, if_pos h]; exact (long_no n w h).mono fun e w' h => ⟨h.1, below_of_eq h.2⟩
  · rw [if_neg h, if_neg h]
    obtain ⟨N, rfl⟩ := Int.eq_ofNat_of_zero_le (show 0 ≤ n by omega)
    exact long_ok N w (by omega)

theorem longOf_yes (n : Int) (w : World) (h1 : 0 ≤ n) (h2 : n ≤ 268435455) :
    Calls Tryd.prog 35 #[.int .i64 n] w fun e w' => e = .returned (.string (longS n)) ∧ Below w.heap.size w w' := by
  unfold longS
  rw [if_neg (by omega)]
  obtain ⟨N, rfl⟩ := Int.eq_ofNat_of_zero_le h1
  exact longOf_any 3 N w (by omega) (show N < 268435456 by omega)

theorem text_any (t : ByteArray) (w : World) :
    Calls Tryd.prog 84 #[.string t] w fun e w' => e = .returned (.tuple #[.string (txtS t), .int .i64 (txtE t)]) ∧ Below w.heap.size w w' := by
  unfold txtS txtE
  by_cases h : 65535 < (t.size : Int)
  · rw [if_pos h, if_pos h]; exact (text_many t w h).mono fun e w' h => ⟨h.1, below_of_eq h.2⟩
  · rw [if_neg h, if_neg h]; exact text_ok t w (by omega)

theorem textOf_yes (t : ByteArray) (w : World) (h : (t.size : Int) ≤ 65535) :
    Calls Tryd.prog 32 #[.string t] w fun e w' => e = .returned (.string (txtS t)) ∧ Below w.heap.size w w' := by
  unfold txtS; rw [if_neg (by omega)]; exact textOf_ok t w h

end Go.Proofs.YtgmjdelgocbcaabDoor
