/-
  dragomanlaw.wireBegun answers true.
-/
import Derived.Test.YtaohmbjiljgibaaWireText
import Derived.Test.YtaohmbjiljgibaaWireLong
import Derived.Test.YtaohmbjiljgibaaWireGetLong
namespace Go.Proofs.Ytaohmbjiljgibaa
open Go.RowKit

theorem b_number (w : World) : Calls Try.prog 5 #[.int .i64 258, .int .i64 2] w fun e w' => e = .returned (.tuple #[.string ⟨#[1, 2]⟩, .int .i64 0]) ∧ Below w.heap.size w w' :=
  number_2 258 w (by omega) (by omega)
theorem b_get (w : World) : Calls Try.prog 6 #[.string ⟨#[1, 2]⟩, .int .i64 0, .int .i64 2] w fun e w' => e = .returned (.tuple #[.int .i64 258, .int .i64 0]) ∧ w' = w :=
  get_ok ⟨#[1, 2]⟩ 0 2 w (by decide) (by omega) (by omega) (by decide)
theorem b_long (w : World) : Calls Try.prog 7 #[.int .i64 321] w fun e w' => e = .returned (.tuple #[.string ⟨#[193, 2]⟩, .int .i64 0]) ∧ Below w.heap.size w w' :=
  long_ok 321 w (by omega)
theorem b_getLong (w : World) : Calls Try.prog 8 #[.string ⟨#[193, 2]⟩, .int .i64 0] w fun e w' => e = .returned (.tuple #[.int .i64 321, .int .i64 2, .int .i64 0]) ∧ w' = w :=
  getLong_in ⟨#[193, 2]⟩ 0 w (by decide) (by decide)
theorem b_text (w : World) : Calls Try.prog 9 #[.string ⟨#[104, 105]⟩] w fun e w' => e = .returned (.tuple #[.string ⟨#[0, 2, 104, 105]⟩, .int .i64 0]) ∧ Below w.heap.size w w' :=
  text_ok ⟨#[104, 105]⟩ w (by decide)
theorem b_getText (w : World) : Calls Try.prog 10 #[.string ⟨#[120, 0, 2, 104, 105]⟩, .int .i64 1] w fun e w' => e = .returned (.tuple #[.string ⟨#[104, 105]⟩, .int .i64 4, .int .i64 0]) ∧ Below w.heap.size w w' :=
  getText_ok ⟨#[120, 0, 2, 104, 105]⟩ 1 w (by decide) (by decide) (by decide)

theorem wireBegun_yes (w : World) : Calls Try.prog 18 #[] w fun e w' => e = .returned (.bool true) ∧ Below w.heap.size w w' := by
  go_enter Try.func18, Try.ntmps18
  go_wp2_with fail
  refine (b_number _).mono ?_
  rintro e w1 ⟨rfl, hb1⟩
  go_wp2_with fail
  refine (b_get _).mono ?_
  rintro e w' ⟨rfl, rfl⟩
  go_wp2_with fail
  refine (b_long _).mono ?_
  rintro e w2 ⟨rfl, hb2⟩
  go_wp2_with fail
  refine (b_getLong _).mono ?_
  rintro e w' ⟨rfl, rfl⟩
  go_wp2_with fail
  refine (b_text _).mono ?_
  rintro e w3 ⟨rfl, hb3⟩
  go_wp2_with fail
  refine (b_getText _).mono ?_
  rintro e w4 ⟨rfl, hb4⟩
  go_wp2
  go_ret
  exact ⟨rfl, ((hb1.trans (hb2.mono hb1.size)).trans (hb3.mono (Nat.le_trans hb1.size hb2.size))).trans (hb4.mono (Nat.le_trans (Nat.le_trans hb1.size hb2.size) hb3.size))⟩
end Go.Proofs.Ytaohmbjiljgibaa
