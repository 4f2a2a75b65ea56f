/-
  wire.Number: what it answers, for every number and every count of bytes.
-/
import Derived.Test.YtgmjdelgocbcaabDoorWireSmall
import Derived.Test.YtgmjdelgocbcaabDoorWireMath
import Derived.Handy
namespace Go.Proofs.YtgmjdelgocbcaabDoor
open Go.RowKit

theorem conv_new (w : World) (xs : List Int) (n : Nat) (h : xs.length = n) :
    (convert 43 9 (.slice (some ⟨w.heap.size, 0, none⟩) n n)).run Tryd.prog (w.alloc (.cells (xs.map (Value.int .u8)).toArray 5)) = .ok (.string (strOfNums xs)) (w.alloc (.cells (xs.map (Value.int .u8)).toArray 5)) := by
  refine run_convert_bytes_arg (P := Tryd.prog) _ 43 5 Tryd.underlying43 Tryd.underlying5 w.heap.size 0 n n xs h ?_ 9 Tryd.underlying9
  intro i hi
  rw [World.cell?_alloc_at _ _ _ _ rfl]
  simp [List.getElem?_eq_getElem (show i < xs.length by omega)]

set_option maxHeartbeats 1000000 in
theorem number_1 (n : Int) (w : World) (h1 : 0 ≤ n) (h2 : n < 256) :
    Calls Tryd.prog 52 #[.int .i64 n, .int .i64 1] w fun e w' => e = .returned (.tuple #[.string (strOfNums [n % 256]), .int .i64 0]) ∧ Below w.heap.size w w' := by
  have hsh : (n / 256 != 0) = false := by simp; omega
  have hmk : ∀ w, (Instr.makeSlice 43 (.int .i64 1) (.int .i64 1)).run Tryd.prog w = .ok (.slice (some ⟨w.heap.size, 0, none⟩) 1 1) (w.alloc (.cells #[.int .u8 0] 5)) := fun _ => by kernel_rfl
  have hcv := fun (w : World) (x : Int) => conv_new w [x] 1 rfl
  simp only [List.map] at hcv
  have hn : decide (n < 0) = false := by simp; omega
  have e0 : bits BinOp.and IntKind.i64 n 255 % 256 = n % 256 := by rw [i64_and_255 _ (by omega) (by omega)]; omega
  go_enter Tryd.func52, Tryd.ntmps52
  go_wp2
  refine wp_loop_rounds 2 ?_
  rw [rounds_succ]
  go_wp2
  rw [rounds_succ]
  go_wp2
  go_ret2
  exact ⟨rfl, by go_grown⟩

set_option maxHeartbeats 1000000 in
theorem number_2 (n : Int) (w : World) (h1 : 0 ≤ n) (h2 : n < 65536) :
    Calls Tryd.prog 52 #[.int .i64 n, .int .i64 2] w fun e w' => e = .returned (.tuple #[.string (strOfNums [n / 256 % 256, n % 256]), .int .i64 0]) ∧ Below w.heap.size w w' := by
  have hsh : (n / 65536 != 0) = false := by simp; omega
  have hmk : ∀ w, (Instr.makeSlice 43 (.int .i64 2) (.int .i64 2)).run Tryd.prog w = .ok (.slice (some ⟨w.heap.size, 0, none⟩) 2 2) (w.alloc (.cells #[.int .u8 0, .int .u8 0] 5)) := fun _ => by kernel_rfl
  have hcv := fun (w : World) (x y : Int) => conv_new w [x, y] 2 rfl
  simp only [List.map] at hcv
  have hn : decide (n < 0) = false := by simp; omega
  have e0 : bits BinOp.and IntKind.i64 n 255 % 256 = n % 256 := by rw [i64_and_255 _ (by omega) (by omega)]; omega
  have e1 : bits BinOp.and IntKind.i64 (n / 256) 255 % 256 = n / 256 % 256 := by rw [i64_and_255 _ (by omega) (by omega)]; omega
  go_enter Tryd.func52, Tryd.ntmps52
  go_wp2
  refine wp_loop_rounds 3 ?_
  rw [rounds_succ]
  go_wp2
  rw [rounds_succ]
  go_wp2
  rw [rounds_succ]
  go_wp2
  go_ret2
  exact ⟨rfl, by go_grown⟩

set_option maxHeartbeats 1000000 in
theorem number_3 (n : Int) (w : World) (h1 : 0 ≤ n) (h2 : n < 16777216) :
    Calls Tryd.prog 52 #[.int .i64 n, .int .i64 3] w fun e w' => e = .returned (.tuple #[.string (strOfNums [n / 256 / 256 % 256, n / 256 % 256, n % 256]), .int .i64 0]) ∧ Below w.heap.size w w' := by
  have hsh : (n / 16777216 != 0) = false := by simp; omega
  have hmk : ∀ w, (Instr.makeSlice 43 (.int .i64 3) (.int .i64 3)).run Tryd.prog w = .ok (.slice (some ⟨w.heap.size, 0, none⟩) 3 3) (w.alloc (.cells #[.int .u8 0, .int .u8 0, .int .u8 0] 5)) := fun _ => by kernel_rfl
  have hcv := fun (w : World) (x y z : Int) => conv_new w [x, y, z] 3 rfl
  simp only [List.map] at hcv
  have hn : decide (n < 0) = false := by simp; omega
  have e0 : bits BinOp.and IntKind.i64 n 255 % 256 = n % 256 := by rw [i64_and_255 _ (by omega) (by omega)]; omega
  have e1 : bits BinOp.and IntKind.i64 (n / 256) 255 % 256 = n / 256 % 256 := by rw [i64_and_255 _ (by omega) (by omega)]; omega
  have e2 : bits BinOp.and IntKind.i64 (n / 256 / 256) 255 % 256 = n / 256 / 256 % 256 := by rw [i64_and_255 _ (by omega) (by omega)]; omega
  go_enter Tryd.func52, Tryd.ntmps52
  go_wp2
  refine wp_loop_rounds 4 ?_
  rw [rounds_succ]
  go_wp2
  rw [rounds_succ]
  go_wp2
  rw [rounds_succ]
  go_wp2
  rw [rounds_succ]
  go_wp2
  go_ret2
  exact ⟨rfl, by go_grown⟩

set_option maxHeartbeats 1000000 in
theorem number_4 (n : Int) (w : World) (h1 : 0 ≤ n) (h2 : n < 4294967296) :
    Calls Tryd.prog 52 #[.int .i64 n, .int .i64 4] w fun e w' => e = .returned (.tuple #[.string (strOfNums [n / 256 / 256 / 256 % 256, n / 256 / 256 % 256, n / 256 % 256, n % 256]), .int .i64 0]) ∧ Below w.heap.size w w' := by
  have hsh : (n / 4294967296 != 0) = false := by simp; omega
  have hmk : ∀ w, (Instr.makeSlice 43 (.int .i64 4) (.int .i64 4)).run Tryd.prog w = .ok (.slice (some ⟨w.heap.size, 0, none⟩) 4 4) (w.alloc (.cells #[.int .u8 0, .int .u8 0, .int .u8 0, .int .u8 0] 5)) := fun _ => by kernel_rfl
  have hcv := fun (w : World) (x y z u : Int) => conv_new w [x, y, z, u] 4 rfl
  simp only [List.map] at hcv
  have hn : decide (n < 0) = false := by simp; omega
  have e0 : bits BinOp.and IntKind.i64 n 255 % 256 = n % 256 := by rw [i64_and_255 _ (by omega) (by omega)]; omega
  have e1 : bits BinOp.and IntKind.i64 (n / 256) 255 % 256 = n / 256 % 256 := by rw [i64_and_255 _ (by omega) (by omega)]; omega
  have e2 : bits BinOp.and IntKind.i64 (n / 256 / 256) 255 % 256 = n / 256 / 256 % 256 := by rw [i64_and_255 _ (by omega) (by omega)]; omega
  have e3 : bits BinOp.and IntKind.i64 (n / 256 / 256 / 256) 255 % 256 = n / 256 / 256 / 256 % 256 := by rw [i64_and_255 _ (by omega) (by omega)]; omega
  go_enter Tryd.func52, Tryd.ntmps52
  go_wp2
  refine wp_loop_rounds 5 ?_
  rw [rounds_succ]
  go_wp2
  rw [rounds_succ]
  go_wp2
  rw [rounds_succ]
  go_wp2
  rw [rounds_succ]
  go_wp2
  rw [rounds_succ]
  go_wp2
  go_ret2
  exact ⟨rfl, by go_grown⟩

theorem number_kind (n b : Int) (w : World) (h : b < 1 ∨ 4 < b) :
    Calls Tryd.prog 52 #[.int .i64 n, .int .i64 b] w fun e w' => e = .returned (.tuple #[.string ⟨#[]⟩, .int .i64 7]) ∧ w' = w := by
  by_cases h1 : b < 1
  · go_enter Tryd.func52, Tryd.ntmps52
    go_wp2
    go_ret2
    exact ⟨rfl, rfl⟩
  · have h1' : decide (b < 1) = false := by simp; omega
    have h2 : 4 < b := by omega
    go_enter Tryd.func52, Tryd.ntmps52
    go_wp2
    go_ret2
    exact ⟨rfl, rfl⟩

theorem number_below (n b : Int) (w : World) (h : 1 ≤ b) (h4 : b ≤ 4) (hn : n < 0) :
    Calls Tryd.prog 52 #[.int .i64 n, .int .i64 b] w fun e w' => e = .returned (.tuple #[.string ⟨#[]⟩, .int .i64 3]) ∧ w' = w := by
  have h1' : decide (b < 1) = false := by simp; omega
  go_enter Tryd.func52, Tryd.ntmps52
  go_wp2
  go_ret2
  exact ⟨rfl, rfl⟩

theorem number_above (n b : Int) (w : World) (h : b = 1 ∨ b = 2 ∨ b = 3 ∨ b = 4) (hn : 256 ^ b.toNat ≤ n) :
    Calls Tryd.prog 52 #[.int .i64 n, .int .i64 b] w fun e w' => e = .returned (.tuple #[.string ⟨#[]⟩, .int .i64 3]) ∧ w' = w := by
  rcases h with rfl | rfl | rfl | rfl
  · have h2 : (n / 256 != 0) = true := by simp at hn ⊢; omega
    have hn' : decide (n < 0) = false := by simp at hn ⊢; omega
    clear hn
    go_enter Tryd.func52, Tryd.ntmps52
    go_wp2
    go_ret2
    exact ⟨rfl, rfl⟩
  · have h2 : (n / 65536 != 0) = true := by simp at hn ⊢; omega
    have hn' : decide (n < 0) = false := by simp at hn ⊢; omega
    clear hn
    go_enter Tryd.func52, Tryd.ntmps52
    go_wp2
    go_ret2
    exact ⟨rfl, rfl⟩
  · have h2 : (n / 16777216 != 0) = true := by simp at hn ⊢; omega
    have hn' : decide (n < 0) = false := by simp at hn ⊢; omega
    clear hn
    go_enter Tryd.func52, Tryd.ntmps52
    go_wp2
    go_ret2
    exact ⟨rfl, rfl⟩
  · have h2 : (n / 4294967296 != 0) = true := by simp at hn ⊢; omega
    have hn' : decide (n < 0) = false := by simp at hn ⊢; omega
    clear hn
    go_enter Tryd.func52, Tryd.ntmps52
    go_wp2
    go_ret2
    exact ⟨rfl, rfl⟩

theorem number_any (n b : Int) (w : World) :
    Calls Tryd.prog 52 #[.int .i64 n, .int .i64 b] w fun e w' => e = .returned (.tuple #[.string (numS n b), .int .i64 (numE n b)]) ∧ Below w.heap.size w w' := by
  by_cases hb : b < 1 ∨ 4 < b
  · rw [numS_no (by rw [numE_kind hb]; decide), numE_kind hb]
    exact (number_kind n b w hb).mono fun e w' h => ⟨h.1, below_of_eq h.2⟩
  · have hb4 : b = 1 ∨ b = 2 ∨ b = 3 ∨ b = 4 := by omega
    by_cases hn : n < 0 ∨ 256 ^ b.toNat ≤ n
    · rw [numS_no (by rw [numE_range hb hn]; decide), numE_range hb hn]
      rcases hn with hn | hn
      · exact (number_below n b w (by omega) (by omega) hn).mono fun e w' h => ⟨h.1, below_of_eq h.2⟩
      · exact (number_above n b w hb4 hn).mono fun e w' h => ⟨h.1, below_of_eq h.2⟩
    · rw [numS_ok (numE_ok hb hn), numE_ok hb hn]
      rcases hb4 with rfl | rfl | rfl | rfl
      · simp at hn; exact number_1 n w (by omega) (by omega)
      · simp at hn; exact number_2 n w (by omega) (by omega)
      · simp at hn; exact number_3 n w (by omega) (by omega)
      · simp at hn; exact number_4 n w (by omega) (by omega)
end Go.Proofs.YtgmjdelgocbcaabDoor
