/-
  dragomanref.LongOf: what it answers.
-/
import Derived.Test.YtgmjdelgocbcaabDoorWireRef
import Derived.Deep.RegionWith
namespace Go.Proofs.YtgmjdelgocbcaabDoor
open Go.RowKit

/-- string(b) of one byte that lies in memory -/
theorem conv_cell (w : World) (g : Nat) (x : Int) (h : w.cell? ⟨g, 0, none⟩ = some (.int .u8 x)) :
    (convert 43 9 (.slice (some ⟨g, 0, none⟩) 1 1)).run Tryd.prog w = .ok (.string (strOfNums [x])) w := by
  refine run_convert_bytes_arg (P := Tryd.prog) w 43 5 Tryd.underlying43 Tryd.underlying5 g 0 1 1 [x] rfl ?_ 9 Tryd.underlying9
  intro i hi
  obtain rfl : i = 0 := by omega
  exact h

theorem conv_below {w w1 : World} {x : Int} (hb : Below (w.alloc (.cells #[.int .u8 x] 5)).drew.heap.size (w.alloc (.cells #[.int .u8 x] 5)).drew w1) :
    (convert 43 9 (.slice (some ⟨w.heap.size, 0, none⟩) 1 1)).run Tryd.prog w1 = .ok (.string (strOfNums [x])) w1 :=
  conv_cell w1 w.heap.size x (by rw [hb.cell (by simp)]; simp)

theorem longOf_small (f n : Nat) (w : World) (h : n < 128) :
    Calls Tryd.prog 35 #[.int .i64 n] w fun e w' => e = .returned (.string (strOfNums (longL f n))) ∧ Below w.heap.size w w' := by
  have hcv := conv_one
  have hn : (n : Int) < 128 := by omega
  rw [show longL f n = [(n : Int)] from by cases f with | zero => simp only [longL]; congr 1; omega | succ j => exact if_pos h]
  clear h
  go_enter Tryd.func35, Tryd.ntmps35
  go_wp2
  go_ret
  exact ⟨rfl, by go_grown⟩

set_option maxHeartbeats 1000000 in
set_option maxRecDepth 100000 in
theorem longOf_any (f : Nat) : ∀ (n : Nat) (w : World), f ≤ 3 → n < 128 ^ (f + 1) →
    Calls Tryd.prog 35 #[.int .i64 n] w fun e w' => e = .returned (.string (strOfNums (longL f n))) ∧ Below w.heap.size w w' := by
  induction f with
  | zero => intro n w _ h; exact longOf_small 0 n w (by omega)
  | succ f ih =>
    intro n w hf h
    by_cases hs : n < 128
    · exact longOf_small (f + 1) n w hs
    · have h4 : n < 268435456 := Nat.lt_of_lt_of_le h (Nat.pow_le_pow_right (by omega) (show f + 1 + 1 ≤ 4 by omega))
      have IH := hide (ih (n / 128) · (by omega) (by rw [Nat.pow_succ] at h; omega))
      have hcat := str_cat
      have hsz := strOfNums_size
      rw [show longL (f + 1) n = ((n : Int) % 128 + 128) :: longL f (n / 128) from if_neg hs]
      have hl : (longL f (n / 128)).length ≤ 4 := Nat.le_trans (longL_length f _) (by omega)
      have hn1 : 128 ≤ (n : Int) := by omega
      have hn2 : (n : Int) ≤ 268435455 := by omega
      generalize longL f (n / 128) = L at *
      clear ih h h4 hs
      have hX : IntKind.u8.wrap (IntKind.i64.wrap ((n : Int).tmod 128 + 128)) = (n : Int) % 128 + 128 := by
        rw [Int.tmod_eq_emod_of_nonneg (by omega), wrap_i64_in _ (by omega) (by omega), IntKind.wrap_u8']; omega
      have hQ : IntKind.i64.wrap ((n : Int) / 128) = ((n / 128 : Nat) : Int) := by rw [wrap_i64_in _ (by omega) (by omega)]; omega
      generalize hx : (n : Int) % 128 + 128 = x at *
      clear hx
      have hcv := conv_one
      have hcA : (convert 43 9 (.slice (some ⟨w.heap.size, 0, none⟩) 1 1)).run Tryd.prog (w.alloc (.cells #[.int .u8 x] 5)).drew = .ok (.string (strOfNums [x])) (w.alloc (.cells #[.int .u8 x] 5)).drew :=
        conv_cell _ _ x (by simp)
      go_enter Tryd.func35, Tryd.ntmps35
      go_wp2_with fail
      go_region_with (go_at_call 35; refine (IH.out _).mono ?_; rintro e w1 ⟨rfl, hb⟩; try (have hcC := conv_below hb))
      all_goals (try go_wp2)
      all_goals go_ret
      all_goals refine ⟨rfl, ?_⟩
      all_goals first | exact ((Below.refl _ w).alloc (Nat.le_refl _) _).drew.trans (hb.mono (by simp)) | exact ((Below.refl _ w).drew.trans hb).alloc hb.size _
end Go.Proofs.YtgmjdelgocbcaabDoor
