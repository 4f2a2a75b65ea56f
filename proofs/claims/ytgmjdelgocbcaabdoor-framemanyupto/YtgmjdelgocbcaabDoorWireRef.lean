/-
  dragomanref.power, NumberErr, NumberOf: what they answer.
-/
import Derived.Test.YtgmjdelgocbcaabDoorWireNumber
namespace Go.Proofs.YtgmjdelgocbcaabDoor
open Go.RowKit

set_option maxHeartbeats 400000 in
theorem power_0 (w : World) : Calls Tryd.prog 58 #[.int .i64 0] w fun e w' => e = .returned (.int .i64 1) ∧ w' = w := by
  go_enter Tryd.func58, Tryd.ntmps58
  go_wp2
  refine wp_loop_rounds 1 ?_
  rw [rounds_succ]
  go_wp2
  go_ret
  exact ⟨rfl, rfl⟩

set_option maxHeartbeats 400000 in
theorem power_1 (w : World) : Calls Tryd.prog 58 #[.int .i64 1] w fun e w' => e = .returned (.int .i64 256) ∧ w' = w := by
  go_enter Tryd.func58, Tryd.ntmps58
  go_wp2
  refine wp_loop_rounds 2 ?_
  rw [rounds_succ]
  go_wp2
  rw [rounds_succ]
  go_wp2
  go_ret
  exact ⟨rfl, rfl⟩

set_option maxHeartbeats 400000 in
theorem power_2 (w : World) : Calls Tryd.prog 58 #[.int .i64 2] w fun e w' => e = .returned (.int .i64 65536) ∧ w' = w := by
  go_enter Tryd.func58, Tryd.ntmps58
  go_wp2
  refine wp_loop_rounds 3 ?_
  rw [rounds_succ]
  go_wp2
  rw [rounds_succ]
  go_wp2
  rw [rounds_succ]
  go_wp2
  go_ret
  exact ⟨rfl, rfl⟩

set_option maxHeartbeats 400000 in
theorem power_3 (w : World) : Calls Tryd.prog 58 #[.int .i64 3] w fun e w' => e = .returned (.int .i64 16777216) ∧ w' = w := by
  go_enter Tryd.func58, Tryd.ntmps58
  go_wp2
  refine wp_loop_rounds 4 ?_
  rw [rounds_succ]
  go_wp2
  rw [rounds_succ]
  go_wp2
  rw [rounds_succ]
  go_wp2
  rw [rounds_succ]
  go_wp2
  go_ret
  exact ⟨rfl, rfl⟩

set_option maxHeartbeats 400000 in
theorem power_4 (w : World) : Calls Tryd.prog 58 #[.int .i64 4] w fun e w' => e = .returned (.int .i64 4294967296) ∧ w' = w := by
  go_enter Tryd.func58, Tryd.ntmps58
  go_wp2
  refine wp_loop_rounds 5 ?_
  rw [rounds_succ]
  go_wp2
  rw [rounds_succ]
  go_wp2
  rw [rounds_succ]
  go_wp2
  rw [rounds_succ]
  go_wp2
  rw [rounds_succ]
  go_wp2
  go_ret
  exact ⟨rfl, rfl⟩

/-- string([]byte{x}), the block new -/
theorem conv_one (w : World) (g : Nat) (x : Int) (hg : g = w.heap.size) :
    (convert 43 9 (.slice (some ⟨g, 0, none⟩) 1 1)).run Tryd.prog (w.alloc (.cells #[.int .u8 x] 5)) = .ok (.string (strOfNums [x])) (w.alloc (.cells #[.int .u8 x] 5)) := by
  subst hg; exact conv_new w [x] 1 rfl

set_option maxHeartbeats 1000000 in
theorem numberOf_1 (n : Int) (w : World) (h1 : 0 ≤ n) (h2 : n ≤ 255) :
    Calls Tryd.prog 33 #[.int .i64 n, .int .i64 1] w fun e w' => e = .returned (.string (strOfNums [n % 256])) ∧ Below w.heap.size w w' := by
  have hcv := conv_one
  have hcat := str_cat
  have hnil := str_nil
  have hsz := strOfNums_size
  go_enter Tryd.func33, Tryd.ntmps33
  go_wp2
  refine wp_loop_rounds 2 ?_
  rw [rounds_succ]
  go_wp2_with (go_at_call 58; refine (power_0 _).mono ?_; rintro e w' ⟨rfl, rfl⟩)
  rw [rounds_succ]
  go_wp2
  go_ret
  exact ⟨rfl, by go_grown⟩

set_option maxHeartbeats 1000000 in
theorem numberOf_2 (n : Int) (w : World) (h1 : 0 ≤ n) (h2 : n ≤ 65535) :
    Calls Tryd.prog 33 #[.int .i64 n, .int .i64 2] w fun e w' => e = .returned (.string (strOfNums [n / 256 % 256, n % 256])) ∧ Below w.heap.size w w' := by
  have hcv := conv_one
  have hcat := str_cat
  have hnil := str_nil
  have hsz := strOfNums_size
  go_enter Tryd.func33, Tryd.ntmps33
  go_wp2
  refine wp_loop_rounds 3 ?_
  rw [rounds_succ]
  go_wp2_with (go_at_call 58; refine (power_1 _).mono ?_; rintro e w' ⟨rfl, rfl⟩)
  rw [rounds_succ]
  go_wp2_with (go_at_call 58; refine (power_0 _).mono ?_; rintro e w' ⟨rfl, rfl⟩)
  rw [rounds_succ]
  go_wp2
  go_ret
  exact ⟨rfl, by go_grown⟩

set_option maxHeartbeats 1000000 in
theorem numberOf_3 (n : Int) (w : World) (h1 : 0 ≤ n) (h2 : n ≤ 16777215) :
    Calls Tryd.prog 33 #[.int .i64 n, .int .i64 3] w fun e w' => e = .returned (.string (strOfNums [n / 256 / 256 % 256, n / 256 % 256, n % 256])) ∧ Below w.heap.size w w' := by
  have hcv := conv_one
  have hcat := str_cat
  have hnil := str_nil
  have hsz := strOfNums_size
  go_enter Tryd.func33, Tryd.ntmps33
  go_wp2
  refine wp_loop_rounds 4 ?_
  rw [rounds_succ]
  go_wp2_with (go_at_call 58; refine (power_2 _).mono ?_; rintro e w' ⟨rfl, rfl⟩)
  rw [rounds_succ]
  go_wp2_with (go_at_call 58; refine (power_1 _).mono ?_; rintro e w' ⟨rfl, rfl⟩)
  rw [rounds_succ]
  go_wp2_with (go_at_call 58; refine (power_0 _).mono ?_; rintro e w' ⟨rfl, rfl⟩)
  rw [rounds_succ]
  go_wp2
  go_ret
  exact ⟨by rw [show n / 256 / 256 = n / 65536 by omega]; rfl, by go_grown⟩

set_option maxHeartbeats 1000000 in
theorem numberOf_4 (n : Int) (w : World) (h1 : 0 ≤ n) (h2 : n ≤ 4294967295) :
    Calls Tryd.prog 33 #[.int .i64 n, .int .i64 4] w fun e w' => e = .returned (.string (strOfNums [n / 256 / 256 / 256 % 256, n / 256 / 256 % 256, n / 256 % 256, n % 256])) ∧ Below w.heap.size w w' := by
  have hcv := conv_one
  have hcat := str_cat
  have hnil := str_nil
  have hsz := strOfNums_size
  go_enter Tryd.func33, Tryd.ntmps33
  go_wp2
  refine wp_loop_rounds 5 ?_
  rw [rounds_succ]
  go_wp2_with (go_at_call 58; refine (power_3 _).mono ?_; rintro e w' ⟨rfl, rfl⟩)
  rw [rounds_succ]
  go_wp2_with (go_at_call 58; refine (power_2 _).mono ?_; rintro e w' ⟨rfl, rfl⟩)
  rw [rounds_succ]
  go_wp2_with (go_at_call 58; refine (power_1 _).mono ?_; rintro e w' ⟨rfl, rfl⟩)
  rw [rounds_succ]
  go_wp2_with (go_at_call 58; refine (power_0 _).mono ?_; rintro e w' ⟨rfl, rfl⟩)
  rw [rounds_succ]
  go_wp2
  go_ret
  exact ⟨by rw [show n / 256 / 256 / 256 = n / 16777216 by omega, show n / 256 / 256 = n / 65536 by omega]; rfl, by go_grown⟩

theorem numberOf_any (n b : Int) (w : World) (h : numE n b = 0) :
    Calls Tryd.prog 33 #[.int .i64 n, .int .i64 b] w fun e w' => e = .returned (.string (numS n b)) ∧ Below w.heap.size w w' := by
  rw [numS_ok h]
  by_cases hb : b < 1 ∨ 4 < b
  · rw [numE_kind hb] at h; omega
  · have hb4 : b = 1 ∨ b = 2 ∨ b = 3 ∨ b = 4 := by omega
    by_cases hn : n < 0 ∨ 256 ^ b.toNat ≤ n
    · rw [numE_range hb hn] at h; omega
    · rcases hb4 with rfl | rfl | rfl | rfl
      · simp at hn; exact numberOf_1 n w (by omega) (by omega)
      · simp at hn; exact numberOf_2 n w (by omega) (by omega)
      · simp at hn; exact numberOf_3 n w (by omega) (by omega)
      · simp at hn; exact numberOf_4 n w (by omega) (by omega)
end Go.Proofs.YtgmjdelgocbcaabDoor
