/-
  dragomanlaw.blockBegun, dragomanref.LongBlock: what they answer.
-/
import Derived.Test.YtcldjoklkbbbgadBlkJoined
namespace Go.Proofs.Ytcldjoklkbbbgad
open Go.RowKit Go.PlainAid

def pxy : ByteArray := ⟨#[48, 49, 50, 51, 52, 53, 54, 55, 56, 57, 97, 98, 99, 100, 101, 102, 88, 89]⟩
def p16 : ByteArray := ⟨#[48, 49, 50, 51, 52, 53, 54, 55, 56, 57, 97, 98, 99, 100, 101, 102]⟩
def p2 : ByteArray := ⟨#[88, 89]⟩
theorem join_xy : joinE [p16, p2] [⟨0, true, 0⟩, ⟨1, false, 0⟩] = 0 := by decide +kernel
theorem cut_x : cutE pxy 0 0 = 0 ∧ cutS pxy 0 0 = p16 ∧ cutB pxy 0 0 = ⟨0, true, 0⟩ := by decide +kernel
theorem cut_y : cutE pxy 1 0 = 0 ∧ cutS pxy 1 0 = p2 ∧ cutB pxy 1 0 = ⟨1, false, 0⟩ := by decide +kernel

set_option maxHeartbeats 2000000 in
theorem blockBegun_yes (w : World) : Calls Try.prog 6 #[] w fun e w' => e = .returned (.bool true) ∧ Below w.heap.size w w' := by
  have C0 : Hid (∀ W, Calls Try.prog 8 #[.string pxy, .int .i64 0, .int .i64 0] W fun e w' => e = .returned (.tuple #[.string p16, .agg #[.int .i64 0, .bool true, .int .i64 0], .int .i64 0]) ∧ Below W.heap.size W w') := fun W => by
    have := cut_any pxy 0 0 W
    rw [cutAS, cutAB, cut_x.1, if_pos rfl, if_pos rfl, cut_x.2.1, cut_x.2.2] at this
    exact this
  have C1 : Hid (∀ W, Calls Try.prog 8 #[.string pxy, .int .i64 1, .int .i64 0] W fun e w' => e = .returned (.tuple #[.string p2, .agg #[.int .i64 1, .bool false, .int .i64 0], .int .i64 0]) ∧ Below W.heap.size W w') := fun W => by
    have := cut_any pxy 1 0 W
    rw [cutAS, cutAB, cut_y.1, if_pos rfl, if_pos rfl, cut_y.2.1, cut_y.2.2] at this
    exact this
  go_enter Try.func6, Try.ntmps6
  go_wp2_with fail
  refine (C0.out _).mono ?_
  rintro e w1 ⟨rfl, hb1⟩
  have HB1 := hide hb1
  clear hb1
  go_wp2_with fail
  refine (C1.out _).mono ?_
  rintro e w2 ⟨rfl, hb2⟩
  have d2 : ∀ o, w2.cell? ⟨w1.heap.size, o, none⟩ = (#[.int .i64 0, .bool true, .int .i64 0] : Array Value)[o]? := fun o => (hb2.cell (p := ⟨w1.heap.size, o, none⟩) (by simp)).trans (three_cells w1 _ _ _ o)
  have HB2 := hide (below_step (HB1.out.alloc HB1.out.size (.cells #[.int .i64 0, .bool true, .int .i64 0] 25)) hb2)
  have hlt : w1.heap.size < w2.heap.size := by have := hb2.size; simp at this; omega
  clear hb2
  go_wp2_with fail
  have CJ := hide (join_any [p16, p2] [⟨0, true, 0⟩, ⟨1, false, 0⟩] (some ⟨w2.heap.size + 1, 0, none⟩) (some ⟨w2.heap.size + 1 + 1, 0, none⟩) 2 2 (((w2.alloc (.cells #[.int .i64 1, .bool false, .int .i64 0] 25)).alloc (.cells #[.string p16, .string p2] 9)).alloc (.cells #[.int .i64 0, .bool true, .int .i64 0, .int .i64 1, .bool false, .int .i64 0] 25))
    (.inr ⟨_, _, rfl, by simp, fun i hi => by
      have : i = 0 ∨ i = 1 := by simp at hi; omega
      have e := Lib.cell_of_heap (Go.heap_alloc_new (w2.alloc (.cells #[.int .i64 1, .bool false, .int .i64 0] 25)) (.cells #[.string p16, .string p2] 9))
      simp only [World.size_alloc] at e
      rw [World.cell?_alloc_old _ _ _ (by simp)]
      rcases this with rfl | rfl
      · exact e 0
      · exact e 1⟩)
    (.inr ⟨_, _, rfl, by simp, fun i hi => by
      have : i = 0 ∨ i = 1 := by simp at hi; omega
      have e := Lib.cell_of_heap (Go.heap_alloc_new ((w2.alloc (.cells #[.int .i64 1, .bool false, .int .i64 0] 25)).alloc (.cells #[.string p16, .string p2] 9)) (.cells #[.int .i64 0, .bool true, .int .i64 0, .int .i64 1, .bool false, .int .i64 0] 25))
      simp only [World.size_alloc] at e
      rcases this with rfl | rfl
      · exact ⟨e 0, e 1, e 2⟩
      · exact ⟨e 3, e 4, e 5⟩⟩)
    (by decide) (by decide) (fun s hs => by
      simp only [List.mem_cons, List.not_mem_nil, or_false] at hs
      rcases hs with rfl | rfl <;> decide))
  have HW3 := hide (((HB2.out.alloc HB2.out.size (.cells #[.int .i64 1, .bool false, .int .i64 0] 25)).alloc (by have := HB2.out.size; simp; omega) (.cells #[.string p16, .string p2] 9)).alloc (by have := HB2.out.size; simp; omega) (.cells #[.int .i64 0, .bool true, .int .i64 0, .int .i64 1, .bool false, .int .i64 0] 25))
  have q1 : ∀ o, (((w2.alloc (.cells #[.int .i64 1, .bool false, .int .i64 0] 25)).alloc (.cells #[.string p16, .string p2] 9)).alloc (.cells #[.int .i64 0, .bool true, .int .i64 0, .int .i64 1, .bool false, .int .i64 0] 25)).cell? ⟨w1.heap.size, o, none⟩ = (#[.int .i64 0, .bool true, .int .i64 0] : Array Value)[o]? := fun o => by
    rw [World.cell?_alloc_old _ _ _ (by simp; omega), World.cell?_alloc_old _ _ _ (by simp; omega), World.cell?_alloc_old _ _ _ (by simp; omega)]
    exact d2 o
  have q2 : ∀ o, (((w2.alloc (.cells #[.int .i64 1, .bool false, .int .i64 0] 25)).alloc (.cells #[.string p16, .string p2] 9)).alloc (.cells #[.int .i64 0, .bool true, .int .i64 0, .int .i64 1, .bool false, .int .i64 0] 25)).cell? ⟨w2.heap.size, o, none⟩ = (#[.int .i64 1, .bool false, .int .i64 0] : Array Value)[o]? := fun o => by
    rw [World.cell?_alloc_old _ _ _ (by show w2.heap.size ≠ _; simp only [World.size_alloc]; omega), World.cell?_alloc_old _ _ _ (by show w2.heap.size ≠ _; simp only [World.size_alloc]; omega)]
    exact three_cells w2 _ _ _ o
  have hz : w2.heap.size < (((w2.alloc (.cells #[.int .i64 1, .bool false, .int .i64 0] 25)).alloc (.cells #[.string p16, .string p2] 9)).alloc (.cells #[.int .i64 0, .bool true, .int .i64 0, .int .i64 1, .bool false, .int .i64 0] 25)).heap.size := by simp; omega
  rw [show joinS [p16, p2] [⟨0, true, 0⟩, ⟨1, false, 0⟩] = pxy by decide +kernel, join_xy] at CJ
  refine CJ.out.mono ?_
  rintro e w3 ⟨rfl, hb3⟩
  have r1 : ∀ o, w3.cell? ⟨w1.heap.size, o, none⟩ = (#[.int .i64 0, .bool true, .int .i64 0] : Array Value)[o]? := fun o => (hb3.cell (p := ⟨w1.heap.size, o, none⟩) (by show w1.heap.size < _; omega)).trans (q1 o)
  have r2 : ∀ o, w3.cell? ⟨w2.heap.size, o, none⟩ = (#[.int .i64 1, .bool false, .int .i64 0] : Array Value)[o]? := fun o => (hb3.cell (p := ⟨w2.heap.size, o, none⟩) hz).trans (q2 o)
  have HW4 := hide (below_step HW3.out hb3)
  clear q1 q2 hz hb3 HW3 CJ d2
  unfold pxy p2
  go_wp2
  go_ret
  exact ⟨rfl, HW4.out⟩

theorem blong_step (k : Nat) : 2 * (room k : Int) = (room ((k + 1 : Nat) : Int) : Int) := by
  have := room_twice (s := (k : Int)) (by omega)
  rw [show ((k + 1 : Nat) : Int) = (k : Int) + 1 by omega, this]
  omega

set_option maxHeartbeats 1000000 in
theorem longBlock_any (s : Int) (w : World) (h0 : 0 ≤ s) (h6 : s ≤ 6) : Calls Try.prog 7 #[.int .i64 s] w fun e w' => e = .returned (.int .i64 (room s)) ∧ w' = w := by
  obtain ⟨n, rfl⟩ : ∃ n : Nat, s = n := ⟨s.toNat, by omega⟩
  generalize hE : (room (n : Int) : Int) = E
  have HE := hide hE
  clear hE
  go_enter Try.func7, Try.ntmps7
  go_wp2
  go_loop [3, 4] (fun a i => ∃ k : Nat, k ≤ n ∧ i = .int .i64 k ∧ a = .int .i64 (room (k : Int))) (fun _ i => n - (intOf i).toNat)
  case atStart => exact ⟨0, by omega, rfl, rfl⟩
  case round =>
    obtain ⟨k, hk, rfl, rfl⟩ := hrel
    have r2 : (room (k : Int) : Int) ≤ 1024 := by have := room_le (s := (k : Int)) (by omega); omega
    by_cases hlt : k < n
    · have HS := hide (blong_step k)
      generalize room (k : Int) = R at *
      go_wp2
      go_round
      case rel => exact ⟨k + 1, by omega, by go_num, by rw [HS.out]⟩
      case measure => simp [intOf]; omega
    · obtain rfl : k = n := by omega
      rw [HE.out] at r2 ⊢
      clear HE
      go_wp2
      go_ret
      exact ⟨rfl, rfl⟩
end Go.Proofs.Ytcldjoklkbbbgad
