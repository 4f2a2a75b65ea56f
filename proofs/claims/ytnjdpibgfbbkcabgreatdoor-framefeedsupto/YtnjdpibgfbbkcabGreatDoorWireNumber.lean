/-
  wire.Number: what it answers, for every number and every count of bytes.
-/
import Derived.Test.YtnjdpibgfbbkcabGreatDoorWireGets
import Derived.Test.YtnjdpibgfbbkcabGreatDoorWireMath
import Derived.Handy
import Derived.Deep.AppendLies
import Derived.WalkSpells
import Derived.Laws.OwnMore
import Derived.Deep.RegionWith
namespace Go.Proofs.YtnjdpibgfbbkcabGreatDoor
open Go.RowKit

theorem conv_new (w : World) (xs : List Int) (n : Nat) (h : xs.length = n) :
    (convert 59 9 (.slice (some ⟨w.heap.size, 0, none⟩) n n)).run Tryz.prog (w.alloc (.cells (xs.map (Value.int .u8)).toArray 5)) = .ok (.string (strOfNums xs)) (w.alloc (.cells (xs.map (Value.int .u8)).toArray 5)) := by
  refine run_convert_bytes_arg (P := Tryz.prog) _ 59 5 Tryz.underlying59 Tryz.underlying5 w.heap.size 0 n n xs h ?_ 9 Tryz.underlying9
  intro i hi
  rw [World.cell?_alloc_at _ _ _ _ rfl]
  simp [List.getElem?_eq_getElem (show i < xs.length by omega)]

set_option maxHeartbeats 1000000 in
theorem number_1 (n : Int) (w : World) (h1 : 0 ≤ n) (h2 : n < 256) :
    Calls Tryz.prog 56 #[.int .i64 n, .int .i64 1] w fun e w' => e = .returned (.tuple #[.string (strOfNums [n % 256]), .int .i64 0]) ∧ Below w.heap.size w w' := by
  have hsh : (n / 256 != 0) = false := by simp; omega
  have hmk : ∀ w, (Instr.makeSlice 59 (.int .i64 1) (.int .i64 1)).run Tryz.prog w = .ok (.slice (some ⟨w.heap.size, 0, none⟩) 1 1) (w.alloc (.cells #[.int .u8 0] 5)) := fun _ => by kernel_rfl
  have hcv := fun (w : World) (x : Int) => conv_new w [x] 1 rfl
  simp only [List.map] at hcv
  have hn : decide (n < 0) = false := by simp; omega
  have e0 : bits BinOp.and IntKind.i64 n 255 % 256 = n % 256 := by rw [i64_and_255 _ (by omega) (by omega)]; omega
  go_enter Tryz.func56, Tryz.ntmps56
  go_wp2
  refine wp_loop_rounds 2 ?_
  rw [rounds_succ]
  go_wp2
  rw [rounds_succ]
  go_wp2
  go_ret2
  exact ⟨rfl, by go_grown⟩

set_option maxHeartbeats 1000000 in
theorem number_2 (n : Int) (w : World) (h1 : 0 ≤ n) (h2 : n < 65536) :
    Calls Tryz.prog 56 #[.int .i64 n, .int .i64 2] w fun e w' => e = .returned (.tuple #[.string (strOfNums [n / 256 % 256, n % 256]), .int .i64 0]) ∧ Below w.heap.size w w' := by
  have hsh : (n / 65536 != 0) = false := by simp; omega
  have hmk : ∀ w, (Instr.makeSlice 59 (.int .i64 2) (.int .i64 2)).run Tryz.prog w = .ok (.slice (some ⟨w.heap.size, 0, none⟩) 2 2) (w.alloc (.cells #[.int .u8 0, .int .u8 0] 5)) := fun _ => by kernel_rfl
  have hcv := fun (w : World) (x y : Int) => conv_new w [x, y] 2 rfl
  simp only [List.map] at hcv
  have hn : decide (n < 0) = false := by simp; omega
  have e0 : bits BinOp.and IntKind.i64 n 255 % 256 = n % 256 := by rw [i64_and_255 _ (by omega) (by omega)]; omega
  have e1 : bits BinOp.and IntKind.i64 (n / 256) 255 % 256 = n / 256 % 256 := by rw [i64_and_255 _ (by omega) (by omega)]; omega
  go_enter Tryz.func56, Tryz.ntmps56
  go_wp2
  refine wp_loop_rounds 3 ?_
  rw [rounds_succ]
  go_wp2
  rw [rounds_succ]
  go_wp2
  rw [rounds_succ]
  go_wp2
  go_ret2
  exact ⟨rfl, by go_grown⟩

set_option maxHeartbeats 1000000 in
theorem number_3 (n : Int) (w : World) (h1 : 0 ≤ n) (h2 : n < 16777216) :
    Calls Tryz.prog 56 #[.int .i64 n, .int .i64 3] w fun e w' => e = .returned (.tuple #[.string (strOfNums [n / 256 / 256 % 256, n / 256 % 256, n % 256]), .int .i64 0]) ∧ Below w.heap.size w w' := by
  have hsh : (n / 16777216 != 0) = false := by simp; omega
  have hmk : ∀ w, (Instr.makeSlice 59 (.int .i64 3) (.int .i64 3)).run Tryz.prog w = .ok (.slice (some ⟨w.heap.size, 0, none⟩) 3 3) (w.alloc (.cells #[.int .u8 0, .int .u8 0, .int .u8 0] 5)) := fun _ => by kernel_rfl
  have hcv := fun (w : World) (x y z : Int) => conv_new w [x, y, z] 3 rfl
  simp only [List.map] at hcv
  have hn : decide (n < 0) = false := by simp; omega
  have e0 : bits BinOp.and IntKind.i64 n 255 % 256 = n % 256 := by rw [i64_and_255 _ (by omega) (by omega)]; omega
  have e1 : bits BinOp.and IntKind.i64 (n / 256) 255 % 256 = n / 256 % 256 := by rw [i64_and_255 _ (by omega) (by omega)]; omega
  have e2 : bits BinOp.and IntKind.i64 (n / 256 / 256) 255 % 256 = n / 256 / 256 % 256 := by rw [i64_and_255 _ (by omega) (by omega)]; omega
  go_enter Tryz.func56, Tryz.ntmps56
  go_wp2
  refine wp_loop_rounds 4 ?_
  rw [rounds_succ]
  go_wp2
  rw [rounds_succ]
  go_wp2
  rw [rounds_succ]
  go_wp2
  rw [rounds_succ]
  go_wp2
  go_ret2
  exact ⟨rfl, by go_grown⟩

set_option maxHeartbeats 1000000 in
theorem number_4 (n : Int) (w : World) (h1 : 0 ≤ n) (h2 : n < 4294967296) :
    Calls Tryz.prog 56 #[.int .i64 n, .int .i64 4] w fun e w' => e = .returned (.tuple #[.string (strOfNums [n / 256 / 256 / 256 % 256, n / 256 / 256 % 256, n / 256 % 256, n % 256]), .int .i64 0]) ∧ Below w.heap.size w w' := by
  have hsh : (n / 4294967296 != 0) = false := by simp; omega
  have hmk : ∀ w, (Instr.makeSlice 59 (.int .i64 4) (.int .i64 4)).run Tryz.prog w = .ok (.slice (some ⟨w.heap.size, 0, none⟩) 4 4) (w.alloc (.cells #[.int .u8 0, .int .u8 0, .int .u8 0, .int .u8 0] 5)) := fun _ => by kernel_rfl
  have hcv := fun (w : World) (x y z u : Int) => conv_new w [x, y, z, u] 4 rfl
  simp only [List.map] at hcv
  have hn : decide (n < 0) = false := by simp; omega
  have e0 : bits BinOp.and IntKind.i64 n 255 % 256 = n % 256 := by rw [i64_and_255 _ (by omega) (by omega)]; omega
  have e1 : bits BinOp.and IntKind.i64 (n / 256) 255 % 256 = n / 256 % 256 := by rw [i64_and_255 _ (by omega) (by omega)]; omega
  have e2 : bits BinOp.and IntKind.i64 (n / 256 / 256) 255 % 256 = n / 256 / 256 % 256 := by rw [i64_and_255 _ (by omega) (by omega)]; omega
  have e3 : bits BinOp.and IntKind.i64 (n / 256 / 256 / 256) 255 % 256 = n / 256 / 256 / 256 % 256 := by rw [i64_and_255 _ (by omega) (by omega)]; omega
  go_enter Tryz.func56, Tryz.ntmps56
  go_wp2
  refine wp_loop_rounds 5 ?_
  rw [rounds_succ]
  go_wp2
  rw [rounds_succ]
  go_wp2
  rw [rounds_succ]
  go_wp2
  rw [rounds_succ]
  go_wp2
  rw [rounds_succ]
  go_wp2
  go_ret2
  exact ⟨rfl, by go_grown⟩

theorem number_kind (n b : Int) (w : World) (h : b < 1 ∨ 4 < b) :
    Calls Tryz.prog 56 #[.int .i64 n, .int .i64 b] w fun e w' => e = .returned (.tuple #[.string ⟨#[]⟩, .int .i64 7]) ∧ w' = w := by
  by_cases h1 : b < 1
  · go_enter Tryz.func56, Tryz.ntmps56
    go_wp2
    go_ret2
    exact ⟨rfl, rfl⟩
  · have h1' : decide (b < 1) = false := by simp; omega
    have h2 : 4 < b := by omega
    go_enter Tryz.func56, Tryz.ntmps56
    go_wp2
    go_ret2
    exact ⟨rfl, rfl⟩

theorem number_below (n b : Int) (w : World) (h : 1 ≤ b) (h4 : b ≤ 4) (hn : n < 0) :
    Calls Tryz.prog 56 #[.int .i64 n, .int .i64 b] w fun e w' => e = .returned (.tuple #[.string ⟨#[]⟩, .int .i64 3]) ∧ w' = w := by
  have h1' : decide (b < 1) = false := by simp; omega
  go_enter Tryz.func56, Tryz.ntmps56
  go_wp2
  go_ret2
  exact ⟨rfl, rfl⟩

theorem number_above (n b : Int) (w : World) (h : b = 1 ∨ b = 2 ∨ b = 3 ∨ b = 4) (hn : 256 ^ b.toNat ≤ n) :
    Calls Tryz.prog 56 #[.int .i64 n, .int .i64 b] w fun e w' => e = .returned (.tuple #[.string ⟨#[]⟩, .int .i64 3]) ∧ w' = w := by
  rcases h with rfl | rfl | rfl | rfl
  · have h2 : (n / 256 != 0) = true := by simp at hn ⊢; omega
    have hn' : decide (n < 0) = false := by simp at hn ⊢; omega
    clear hn
    go_enter Tryz.func56, Tryz.ntmps56
    go_wp2
    go_ret2
    exact ⟨rfl, rfl⟩
  · have h2 : (n / 65536 != 0) = true := by simp at hn ⊢; omega
    have hn' : decide (n < 0) = false := by simp at hn ⊢; omega
    clear hn
    go_enter Tryz.func56, Tryz.ntmps56
    go_wp2
    go_ret2
    exact ⟨rfl, rfl⟩
  · have h2 : (n / 16777216 != 0) = true := by simp at hn ⊢; omega
    have hn' : decide (n < 0) = false := by simp at hn ⊢; omega
    clear hn
    go_enter Tryz.func56, Tryz.ntmps56
    go_wp2
    go_ret2
    exact ⟨rfl, rfl⟩
  · have h2 : (n / 4294967296 != 0) = true := by simp at hn ⊢; omega
    have hn' : decide (n < 0) = false := by simp at hn ⊢; omega
    clear hn
    go_enter Tryz.func56, Tryz.ntmps56
    go_wp2
    go_ret2
    exact ⟨rfl, rfl⟩

theorem number_any (n b : Int) (w : World) :
    Calls Tryz.prog 56 #[.int .i64 n, .int .i64 b] w fun e w' => e = .returned (.tuple #[.string (numS n b), .int .i64 (numE n b)]) ∧ Below w.heap.size w w' := by
  by_cases hb : b < 1 ∨ 4 < b
  · rw [numS_no (by rw [numE_kind hb]; decide), numE_kind hb]
    exact (number_kind n b w hb).mono fun e w' h => ⟨h.1, below_of_eq h.2⟩
  · have hb4 : b = 1 ∨ b = 2 ∨ b = 3 ∨ b = 4 := by omega
    by_cases hn : n < 0 ∨ 256 ^ b.toNat ≤ n
    · rw [numS_no (by rw [numE_range hb hn]; decide), numE_range hb hn]
      rcases hn with hn | hn
      · exact (number_below n b w (by omega) (by omega) hn).mono fun e w' h => ⟨h.1, below_of_eq h.2⟩
      · exact (number_above n b w hb4 hn).mono fun e w' h => ⟨h.1, below_of_eq h.2⟩
    · rw [numS_ok (numE_ok hb hn), numE_ok hb hn]
      rcases hb4 with rfl | rfl | rfl | rfl
      · simp at hn; exact number_1 n w (by omega) (by omega)
      · simp at hn; exact number_2 n w (by omega) (by omega)
      · simp at hn; exact number_3 n w (by omega) (by omega)
      · simp at hn; exact number_4 n w (by omega) (by omega)
end Go.Proofs.YtnjdpibgfbbkcabGreatDoor
/-
  dragomanref.power, NumberErr, NumberOf: what they answer.
-/
namespace Go.Proofs.YtnjdpibgfbbkcabGreatDoor
open Go.RowKit

set_option maxHeartbeats 400000 in
theorem power_0 (w : World) : Calls Tryz.prog 71 #[.int .i64 0] w fun e w' => e = .returned (.int .i64 1) ∧ w' = w := by
  go_enter Tryz.func71, Tryz.ntmps71
  go_wp2
  refine wp_loop_rounds 1 ?_
  rw [rounds_succ]
  go_wp2
  go_ret
  exact ⟨rfl, rfl⟩

set_option maxHeartbeats 400000 in
theorem power_1 (w : World) : Calls Tryz.prog 71 #[.int .i64 1] w fun e w' => e = .returned (.int .i64 256) ∧ w' = w := by
  go_enter Tryz.func71, Tryz.ntmps71
  go_wp2
  refine wp_loop_rounds 2 ?_
  rw [rounds_succ]
  go_wp2
  rw [rounds_succ]
  go_wp2
  go_ret
  exact ⟨rfl, rfl⟩

set_option maxHeartbeats 400000 in
theorem power_2 (w : World) : Calls Tryz.prog 71 #[.int .i64 2] w fun e w' => e = .returned (.int .i64 65536) ∧ w' = w := by
  go_enter Tryz.func71, Tryz.ntmps71
  go_wp2
  refine wp_loop_rounds 3 ?_
  rw [rounds_succ]
  go_wp2
  rw [rounds_succ]
  go_wp2
  rw [rounds_succ]
  go_wp2
  go_ret
  exact ⟨rfl, rfl⟩

set_option maxHeartbeats 400000 in
theorem power_3 (w : World) : Calls Tryz.prog 71 #[.int .i64 3] w fun e w' => e = .returned (.int .i64 16777216) ∧ w' = w := by
  go_enter Tryz.func71, Tryz.ntmps71
  go_wp2
  refine wp_loop_rounds 4 ?_
  rw [rounds_succ]
  go_wp2
  rw [rounds_succ]
  go_wp2
  rw [rounds_succ]
  go_wp2
  rw [rounds_succ]
  go_wp2
  go_ret
  exact ⟨rfl, rfl⟩

set_option maxHeartbeats 400000 in
theorem power_4 (w : World) : Calls Tryz.prog 71 #[.int .i64 4] w fun e w' => e = .returned (.int .i64 4294967296) ∧ w' = w := by
  go_enter Tryz.func71, Tryz.ntmps71
  go_wp2
  refine wp_loop_rounds 5 ?_
  rw [rounds_succ]
  go_wp2
  rw [rounds_succ]
  go_wp2
  rw [rounds_succ]
  go_wp2
  rw [rounds_succ]
  go_wp2
  rw [rounds_succ]
  go_wp2
  go_ret
  exact ⟨rfl, rfl⟩

/-- string([]byte{x}), the block new -/
theorem conv_one (w : World) (g : Nat) (x : Int) (hg : g = w.heap.size) :
    (convert 59 9 (.slice (some ⟨g, 0, none⟩) 1 1)).run Tryz.prog (w.alloc (.cells #[.int .u8 x] 5)) = .ok (.string (strOfNums [x])) (w.alloc (.cells #[.int .u8 x] 5)) := by
  subst hg; exact conv_new w [x] 1 rfl

set_option maxHeartbeats 1000000 in
theorem numberOf_1 (n : Int) (w : World) (h1 : 0 ≤ n) (h2 : n ≤ 255) :
    Calls Tryz.prog 46 #[.int .i64 n, .int .i64 1] w fun e w' => e = .returned (.string (strOfNums [n % 256])) ∧ Below w.heap.size w w' := by
  have hcv := conv_one
  have hcat := str_cat
  have hnil := str_nil
  have hsz := strOfNums_size
  go_enter Tryz.func46, Tryz.ntmps46
  go_wp2
  refine wp_loop_rounds 2 ?_
  rw [rounds_succ]
  go_wp2_with (go_at_call 71; refine (power_0 _).mono ?_; rintro e w' ⟨rfl, rfl⟩)
  rw [rounds_succ]
  go_wp2
  go_ret
  exact ⟨rfl, by go_grown⟩

set_option maxHeartbeats 1000000 in
theorem numberOf_2 (n : Int) (w : World) (h1 : 0 ≤ n) (h2 : n ≤ 65535) :
    Calls Tryz.prog 46 #[.int .i64 n, .int .i64 2] w fun e w' => e = .returned (.string (strOfNums [n / 256 % 256, n % 256])) ∧ Below w.heap.size w w' := by
  have hcv := conv_one
  have hcat := str_cat
  have hnil := str_nil
  have hsz := strOfNums_size
  go_enter Tryz.func46, Tryz.ntmps46
  go_wp2
  refine wp_loop_rounds 3 ?_
  rw [rounds_succ]
  go_wp2_with (go_at_call 71; refine (power_1 _).mono ?_; rintro e w' ⟨rfl, rfl⟩)
  rw [rounds_succ]
  go_wp2_with (go_at_call 71; refine (power_0 _).mono ?_; rintro e w' ⟨rfl, rfl⟩)
  rw [rounds_succ]
  go_wp2
  go_ret
  exact ⟨rfl, by go_grown⟩

set_option maxHeartbeats 1000000 in
theorem numberOf_3 (n : Int) (w : World) (h1 : 0 ≤ n) (h2 : n ≤ 16777215) :
    Calls Tryz.prog 46 #[.int .i64 n, .int .i64 3] w fun e w' => e = .returned (.string (strOfNums [n / 256 / 256 % 256, n / 256 % 256, n % 256])) ∧ Below w.heap.size w w' := by
  have hcv := conv_one
  have hcat := str_cat
  have hnil := str_nil
  have hsz := strOfNums_size
  go_enter Tryz.func46, Tryz.ntmps46
  go_wp2
  refine wp_loop_rounds 4 ?_
  rw [rounds_succ]
  go_wp2_with (go_at_call 71; refine (power_2 _).mono ?_; rintro e w' ⟨rfl, rfl⟩)
  rw [rounds_succ]
  go_wp2_with (go_at_call 71; refine (power_1 _).mono ?_; rintro e w' ⟨rfl, rfl⟩)
  rw [rounds_succ]
  go_wp2_with (go_at_call 71; refine (power_0 _).mono ?_; rintro e w' ⟨rfl, rfl⟩)
  rw [rounds_succ]
  go_wp2
  go_ret
  exact ⟨by rw [show n / 256 / 256 = n / 65536 by omega]; rfl, by go_grown⟩

set_option maxHeartbeats 1000000 in
theorem numberOf_4 (n : Int) (w : World) (h1 : 0 ≤ n) (h2 : n ≤ 4294967295) :
    Calls Tryz.prog 46 #[.int .i64 n, .int .i64 4] w fun e w' => e = .returned (.string (strOfNums [n / 256 / 256 / 256 % 256, n / 256 / 256 % 256, n / 256 % 256, n % 256])) ∧ Below w.heap.size w w' := by
  have hcv := conv_one
  have hcat := str_cat
  have hnil := str_nil
  have hsz := strOfNums_size
  go_enter Tryz.func46, Tryz.ntmps46
  go_wp2
  refine wp_loop_rounds 5 ?_
  rw [rounds_succ]
  go_wp2_with (go_at_call 71; refine (power_3 _).mono ?_; rintro e w' ⟨rfl, rfl⟩)
  rw [rounds_succ]
  go_wp2_with (go_at_call 71; refine (power_2 _).mono ?_; rintro e w' ⟨rfl, rfl⟩)
  rw [rounds_succ]
  go_wp2_with (go_at_call 71; refine (power_1 _).mono ?_; rintro e w' ⟨rfl, rfl⟩)
  rw [rounds_succ]
  go_wp2_with (go_at_call 71; refine (power_0 _).mono ?_; rintro e w' ⟨rfl, rfl⟩)
  rw [rounds_succ]
  go_wp2
  go_ret
  exact ⟨by rw [show n / 256 / 256 / 256 = n / 16777216 by omega, show n / 256 / 256 = n / 65536 by omega]; rfl, by go_grown⟩

theorem numberOf_any (n b : Int) (w : World) (h : numE n b = 0) :
    Calls Tryz.prog 46 #[.int .i64 n, .int .i64 b] w fun e w' => e = .returned (.string (numS n b)) ∧ Below w.heap.size w w' := by
  rw [numS_ok h]
  by_cases hb : b < 1 ∨ 4 < b
  · rw [numE_kind hb] at h; omega
  · have hb4 : b = 1 ∨ b = 2 ∨ b = 3 ∨ b = 4 := by omega
    by_cases hn : n < 0 ∨ 256 ^ b.toNat ≤ n
    · rw [numE_range hb hn] at h; omega
    · rcases hb4 with rfl | rfl | rfl | rfl
      · simp at hn; exact numberOf_1 n w (by omega) (by omega)
      · simp at hn; exact numberOf_2 n w (by omega) (by omega)
      · simp at hn; exact numberOf_3 n w (by omega) (by omega)
      · simp at hn; exact numberOf_4 n w (by omega) (by omega)
end Go.Proofs.YtnjdpibgfbbkcabGreatDoor
/-
  wire.Long: what it answers, for every number.
-/
namespace Go.Proofs.YtnjdpibgfbbkcabGreatDoor
open Go.RowKit

theorem info_u8 : (Tryz.prog.info? 5).map (fun i => (i.zero, i.size, i.bytes)) = some (some (.int .u8 0), 1, 1) := by kernel_rfl

/-- string(v) of a slice of bytes of the call's own -/
theorem conv_own (w : World) (B : Nat) (v : Value) (xs : List Int) (hpos : xs ≠ []) (h : w.ownsRow B 5 1 v xs.length (xs.map (Value.int .u8))) :
    (convert 59 9 v).run Tryz.prog w = .ok (.string (strOfNums xs)) w := by
  have hp : 0 < xs.length := List.length_pos_iff.2 hpos
  obtain ⟨g, cap, rfl, _, _⟩ := h.form hp
  refine run_convert_bytes_arg (P := Tryz.prog) w 59 5 Tryz.underlying59 Tryz.underlying5 g 0 xs.length cap xs rfl ?_ 9 Tryz.underlying9
  intro i hi
  rw [Nat.zero_add, h.cellAt i (by omega)]
  simp [List.getElem?_eq_getElem hi]

set_option maxHeartbeats 1000000 in
set_option maxRecDepth 100000 in
theorem long_ok (n : Nat) (w : World) (h : n < 268435456) :
    Calls Tryz.prog 27 #[.int .i64 n] w fun e w' => e = .returned (.tuple #[.string (strOfNums (longL 3 n)), .int .i64 0]) ∧ Below w.heap.size w w' := by
  have hn : decide ((n : Int) < 0) = false := by simp
  have hn2 : (n : Int) ≤ 268435455 := by omega
  have hn3 : decide (268435455 < (n : Int)) = false := by simp; omega
  have HN : Hid (n < 268435456) := h
  clear h
  obtain ⟨i0, hi, hz0, hz1, hz2⟩ := info_parts info_u8
  go_enter Tryz.func27, Tryz.ntmps27
  go_wp2
  go_loopw [0, 4] (fun m v wr => ∃ (k : Nat) (q : Nat) (l : List Int), k ≤ 3 ∧ l.length = k ∧ q < 128 ^ (4 - k) ∧ m = .int .i64 q ∧ l ++ longL (3 - k) q = longL 3 n ∧ wr.ownsRow w.heap.size 5 1 v l.length (l.map (Value.int .u8)) ∧ Below w.heap.size w wr)
    (fun m _ _ => (intOf m).toNat)
  case atStart => exact ⟨0, n, [], by omega, rfl, HN.out, rfl, rfl, World.ownsRow_nil _ _ _ _, Below.refl _ _⟩
  case round =>
    obtain ⟨k, q, l, hk, hl, hq, rfl, hll, hown, hb⟩ := hrel
    have hq2 : q < 268435456 := Nat.lt_of_lt_of_le hq (Nat.pow_le_pow_right (by omega) (show 4 - k ≤ 4 by omega))
    have hq3 : (q : Int) ≤ 268435455 := by omega
    clear hq2
    have Hq : Hid (q < 128 ^ (4 - k)) := hq
    have HL : Hid (l ++ longL (3 - k) q = longL 3 n) := hll
    have Hl : Hid (l.length = k) := hl
    clear hq hll hl
    by_cases hlt : 128 ≤ q
    · go_wp2_with (at_builtin; refine wpList_append_own _ rfl _ _ 59 rfl w.heap.size 5 i0 (.int .u8 0) 1 1 Tryz.underlying59 hi hz0 hz1 hz2 rfl (by decide) _ _ _ rfl (hown.alloc _) ⟨wr.heap.size, 0, none⟩ 1 1 [.int .u8 ((q : Int) % 128 + 128)] rfl rfl ?c1 ?c2 ?c3 ?c4 ?c5 ?_)
      case c1 => exact cell_one_new _ _ _
      case c2 => intro u hu; simp at hu; subst hu; rfl
      case c3 => rw [Hl.out]; unfold maxLen; omega
      case c4 => rw [Hl.out]; omega
      case c5 => have := hb.size; simp; omega
      intro v' w1 hown' hgrow _
      have hb1 : Below w.heap.size w w1 := (hb.alloc hb.size _).grown hgrow (by have := hb.size; simp; omega) (fun g hg => (hown.lt g hg).1)
      have hst := long_step hk hlt Hq.out l
      have HS : Hid (k + 1 ≤ 3 ∧ q / 128 < 128 ^ (4 - (k + 1)) ∧ (l ++ [(q : Int) % 128 + 128]) ++ longL (3 - (k + 1)) (q / 128) = l ++ longL (3 - k) q) := hst
      clear hst hown hgrow
      go_wp2
      go_roundw
      case rel => exact ⟨k + 1, q / 128, l ++ [(q : Int) % 128 + 128], HS.out.1, by simp [Hl.out], HS.out.2.1, by go_num, HS.out.2.2.trans HL.out, by simpa using hown', hb1⟩
      case measure => simp [intOf]; omega
    · go_wp2_with (at_builtin; refine wpList_append_own _ rfl _ _ 59 rfl w.heap.size 5 i0 (.int .u8 0) 1 1 Tryz.underlying59 hi hz0 hz1 hz2 rfl (by decide) _ _ _ rfl (hown.alloc _) ⟨wr.heap.size, 0, none⟩ 1 1 [.int .u8 (q : Int)] rfl rfl ?d1 ?d2 ?d3 ?d4 ?d5 ?_)
      case d1 => exact cell_one_new _ _ _
      case d2 => intro u hu; simp at hu; subst hu; rfl
      case d3 => rw [Hl.out]; unfold maxLen; omega
      case d4 => rw [Hl.out]; omega
      case d5 => have := hb.size; simp; omega
      intro v' w1 hown' hgrow _
      have hb1 : Below w.heap.size w w1 := (hb.alloc hb.size _).grown hgrow (by have := hb.size; simp; omega) (fun g hg => (hown.lt g hg).1)
      have hcv := conv_own w1 w.heap.size v' (l ++ [(q : Int)]) (by simp) (by simpa using hown')
      have HE : Hid (l ++ [(q : Int)] = longL 3 n) := by rw [← long_last (k := k) (show q < 128 by omega)]; exact HL.out
      clear hown' hown hgrow
      go_wp2
      go_ret2
      exact ⟨by rw [HE.out]; rfl, hb1⟩

theorem long_no (n : Int) (w : World) (h : n < 0 ∨ 268435455 < n) :
    Calls Tryz.prog 27 #[.int .i64 n] w fun e w' => e = .returned (.tuple #[.string ⟨#[]⟩, .int .i64 3]) ∧ w' = w := by
  by_cases hn : n < 0
  · go_enter Tryz.func27, Tryz.ntmps27
    go_wp2
    go_ret2
    exact ⟨rfl, rfl⟩
  · have h1 : decide (n < 0) = false := by simp; omega
    have h2 : 268435455 < n := by omega
    go_enter Tryz.func27, Tryz.ntmps27
    go_wp2
    go_ret2
    exact ⟨rfl, rfl⟩
end Go.Proofs.YtnjdpibgfbbkcabGreatDoor
/-
  dragomanref.LongOf: what it answers.
-/
namespace Go.Proofs.YtnjdpibgfbbkcabGreatDoor
open Go.RowKit

/-- string(b) of one byte that lies in memory -/
theorem conv_cell (w : World) (g : Nat) (x : Int) (h : w.cell? ⟨g, 0, none⟩ = some (.int .u8 x)) :
    (convert 59 9 (.slice (some ⟨g, 0, none⟩) 1 1)).run Tryz.prog w = .ok (.string (strOfNums [x])) w := by
  refine run_convert_bytes_arg (P := Tryz.prog) w 59 5 Tryz.underlying59 Tryz.underlying5 g 0 1 1 [x] rfl ?_ 9 Tryz.underlying9
  intro i hi
  obtain rfl : i = 0 := by omega
  exact h

theorem conv_below {w w1 : World} {x : Int} (hb : Below (w.alloc (.cells #[.int .u8 x] 5)).drew.heap.size (w.alloc (.cells #[.int .u8 x] 5)).drew w1) :
    (convert 59 9 (.slice (some ⟨w.heap.size, 0, none⟩) 1 1)).run Tryz.prog w1 = .ok (.string (strOfNums [x])) w1 :=
  conv_cell w1 w.heap.size x (by rw [hb.cell (by simp)]; simp)

theorem longOf_small (f n : Nat) (w : World) (h : n < 128) :
    Calls Tryz.prog 48 #[.int .i64 n] w fun e w' => e = .returned (.string (strOfNums (longL f n))) ∧ Below w.heap.size w w' := by
  have hcv := conv_one
  have hn : (n : Int) < 128 := by omega
  rw [show longL f n = [(n : Int)] from by cases f with | zero => simp only [longL]; congr 1; omega | succ j => exact if_pos h]
  clear h
  go_enter Tryz.func48, Tryz.ntmps48
  go_wp2
  go_ret
  exact ⟨rfl, by go_grown⟩

set_option maxHeartbeats 1000000 in
set_option maxRecDepth 100000 in
theorem longOf_any (f : Nat) : ∀ (n : Nat) (w : World), f ≤ 3 → n < 128 ^ (f + 1) →
    Calls Tryz.prog 48 #[.int .i64 n] w fun e w' => e = .returned (.string (strOfNums (longL f n))) ∧ Below w.heap.size w w' := by
  induction f with
  | zero => intro n w _ h; exact longOf_small 0 n w (by omega)
  | succ f ih =>
    intro n w hf h
    by_cases hs : n < 128
    · exact longOf_small (f + 1) n w hs
    · have h4 : n < 268435456 := Nat.lt_of_lt_of_le h (Nat.pow_le_pow_right (by omega) (show f + 1 + 1 ≤ 4 by omega))
      have IH := hide (ih (n / 128) · (by omega) (by rw [Nat.pow_succ] at h; omega))
      have hcat := str_cat
      have hsz := strOfNums_size
      rw [show longL (f + 1) n = ((n : Int) % 128 + 128) :: longL f (n / 128) from if_neg hs]
      have hl : (longL f (n / 128)).length ≤ 4 := Nat.le_trans (longL_length f _) (by omega)
      have hn1 : 128 ≤ (n : Int) := by omega
      have hn2 : (n : Int) ≤ 268435455 := by omega
      generalize longL f (n / 128) = L at *
      clear ih h h4 hs
      have hX : IntKind.u8.wrap (IntKind.i64.wrap ((n : Int).tmod 128 + 128)) = (n : Int) % 128 + 128 := by
        rw [Int.tmod_eq_emod_of_nonneg (by omega), wrap_i64_in _ (by omega) (by omega), IntKind.wrap_u8']; omega
      have hQ : IntKind.i64.wrap ((n : Int) / 128) = ((n / 128 : Nat) : Int) := by rw [wrap_i64_in _ (by omega) (by omega)]; omega
      generalize hx : (n : Int) % 128 + 128 = x at *
      clear hx
      have hcv := conv_one
      have hcA : (convert 59 9 (.slice (some ⟨w.heap.size, 0, none⟩) 1 1)).run Tryz.prog (w.alloc (.cells #[.int .u8 x] 5)).drew = .ok (.string (strOfNums [x])) (w.alloc (.cells #[.int .u8 x] 5)).drew :=
        conv_cell _ _ x (by simp)
      go_enter Tryz.func48, Tryz.ntmps48
      go_wp2_with fail
      go_region_with (go_at_call 48; refine (IH.out _).mono ?_; rintro e w1 ⟨rfl, hb⟩; try (have hcC := conv_below hb))
      all_goals (try go_wp2)
      all_goals go_ret
      all_goals refine ⟨rfl, ?_⟩
      all_goals first | exact ((Below.refl _ w).alloc (Nat.le_refl _) _).drew.trans (hb.mono (by simp)) | exact ((Below.refl _ w).drew.trans hb).alloc hb.size _
end Go.Proofs.YtnjdpibgfbbkcabGreatDoor
