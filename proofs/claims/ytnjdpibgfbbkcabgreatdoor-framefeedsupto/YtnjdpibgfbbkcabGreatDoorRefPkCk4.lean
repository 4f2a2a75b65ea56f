/-
  The reference's CheckPacket of a packet that has nothing that its kind does not name: kinds 4, 11, 12, 13, 14.
-/
import Derived.Test.YtnjdpibgfbbkcabGreatDoorRefPkCheck
namespace Go.Proofs.YtnjdpibgfbbkcabGreatDoor
open Go.RowKit Go.PlainAid

set_option maxHeartbeats 16000000 in
set_option maxRecDepth 100000 in
theorem rckP_k12  (aa ac : Option Addr) (ca cc : Nat) (w : World) :
    Calls Tryz.prog 25 #[.agg #[.int .i64 12, .bool false, .bool false, .bool false, .bool false, .int .i64 0, .int .i64 0, .int .i64 0, .int .i64 0, .string ⟨#[]⟩, .string ⟨#[]⟩, .string ⟨#[]⟩, .slice aa 0 ca, .slice ac 0 cc]] w fun e w' => e = .returned (.int .i64 (0)) ∧ Below w.heap.size w w' := by
  have HC := hide (fun W => hasId_any 12 0 false false false false 0 0 0 ⟨#[]⟩ ⟨#[]⟩ ⟨#[]⟩ aa ac 0 0 ca cc W)
  rw [show hasB 12 0 = false by decide] at HC
  have HB0 : Hid (Below w.heap.size w (w.alloc (.cells #[.int .i64 12, .bool false, .bool false, .bool false, .bool false, .int .i64 0, .int .i64 0, .int .i64 0, .int .i64 0, .string ⟨#[]⟩, .string ⟨#[]⟩, .string ⟨#[]⟩, .slice aa 0 ca, .slice ac 0 cc] 35)) ∧ (w.alloc (.cells #[.int .i64 12, .bool false, .bool false, .bool false, .bool false, .int .i64 0, .int .i64 0, .int .i64 0, .int .i64 0, .string ⟨#[]⟩, .string ⟨#[]⟩, .string ⟨#[]⟩, .slice aa 0 ca, .slice ac 0 cc] 35)).heap[w.heap.size]? = some (.cells #[.int .i64 12, .bool false, .bool false, .bool false, .bool false, .int .i64 0, .int .i64 0, .int .i64 0, .int .i64 0, .string ⟨#[]⟩, .string ⟨#[]⟩, .string ⟨#[]⟩, .slice aa 0 ca, .slice ac 0 cc] 35 (0, 0))) := ⟨(Below.refl _ _).alloc (Nat.le_refl _) _, Go.heap_alloc_new w _⟩
  go_enter Tryz.func25, Tryz.ntmps25
  go_upto_region 33 with (go_at_call 21; refine (between_any _ _ _ _).mono ?_; rintro e w1 ⟨rfl, rfl⟩)
  revert HB0
  generalize w.alloc (.cells #[.int .i64 12, .bool false, .bool false, .bool false, .bool false, .int .i64 0, .int .i64 0, .int .i64 0, .int .i64 0, .string ⟨#[]⟩, .string ⟨#[]⟩, .string ⟨#[]⟩, .slice aa 0 ca, .slice ac 0 cc] 35) = W0
  intro HB0
  have x1 := fun o => Lib.cell_of_heap HB0.out.2 o
  go_wp2_with fail
  refine (HC.out _).mono ?_
  rintro e w1 ⟨rfl, hb⟩
  have HB0 : Hid (Below w.heap.size w w1 ∧ w1.heap[w.heap.size]? = _) := ⟨below_step HB0.out.1 hb, (hb.block _ (Array.getElem?_eq_some_iff.1 HB0.out.2).1).trans HB0.out.2⟩
  clear hb x1
  have x1 := fun o => Lib.cell_of_heap HB0.out.2 o
  clear HC
  go_wp2
  go_loopw [5] (fun x wr => x = .int .i64 0 ∧ Hid (Below w.heap.size w wr ∧ wr.heap[w.heap.size]? = some (.cells #[.int .i64 12, .bool false, .bool false, .bool false, .bool false, .int .i64 0, .int .i64 0, .int .i64 0, .int .i64 0, .string ⟨#[]⟩, .string ⟨#[]⟩, .string ⟨#[]⟩, .slice aa 0 ca, .slice ac 0 cc] 35 (0, 0)))) (fun _ _ => 0)
  case atStart => exact ⟨rfl, HB0⟩
  case round =>
    obtain ⟨rfl, HB0⟩ := hrel
    have x2 := fun o => Lib.cell_of_heap HB0.out.2 o
    go_wp2
    go_loopw [7] (fun x wr => x = .int .i64 0 ∧ Hid (Below w.heap.size w wr ∧ wr.heap[w.heap.size]? = some (.cells #[.int .i64 12, .bool false, .bool false, .bool false, .bool false, .int .i64 0, .int .i64 0, .int .i64 0, .int .i64 0, .string ⟨#[]⟩, .string ⟨#[]⟩, .string ⟨#[]⟩, .slice aa 0 ca, .slice ac 0 cc] 35 (0, 0)))) (fun _ _ => 0)
    case atStart => exact ⟨rfl, HB0⟩
    case round =>
      obtain ⟨rfl, HB0⟩ := hrel
      have x3 := fun o => Lib.cell_of_heap HB0.out.2 o
      go_wp2
      go_ret
      exact ⟨rfl, HB0.out.1⟩
set_option maxHeartbeats 16000000 in
set_option maxRecDepth 100000 in
theorem rckP_k13  (aa ac : Option Addr) (ca cc : Nat) (w : World) :
    Calls Tryz.prog 25 #[.agg #[.int .i64 13, .bool false, .bool false, .bool false, .bool false, .int .i64 0, .int .i64 0, .int .i64 0, .int .i64 0, .string ⟨#[]⟩, .string ⟨#[]⟩, .string ⟨#[]⟩, .slice aa 0 ca, .slice ac 0 cc]] w fun e w' => e = .returned (.int .i64 (0)) ∧ Below w.heap.size w w' := by
  have HC := hide (fun W => hasId_any 13 0 false false false false 0 0 0 ⟨#[]⟩ ⟨#[]⟩ ⟨#[]⟩ aa ac 0 0 ca cc W)
  rw [show hasB 13 0 = false by decide] at HC
  have HB0 : Hid (Below w.heap.size w (w.alloc (.cells #[.int .i64 13, .bool false, .bool false, .bool false, .bool false, .int .i64 0, .int .i64 0, .int .i64 0, .int .i64 0, .string ⟨#[]⟩, .string ⟨#[]⟩, .string ⟨#[]⟩, .slice aa 0 ca, .slice ac 0 cc] 35)) ∧ (w.alloc (.cells #[.int .i64 13, .bool false, .bool false, .bool false, .bool false, .int .i64 0, .int .i64 0, .int .i64 0, .int .i64 0, .string ⟨#[]⟩, .string ⟨#[]⟩, .string ⟨#[]⟩, .slice aa 0 ca, .slice ac 0 cc] 35)).heap[w.heap.size]? = some (.cells #[.int .i64 13, .bool false, .bool false, .bool false, .bool false, .int .i64 0, .int .i64 0, .int .i64 0, .int .i64 0, .string ⟨#[]⟩, .string ⟨#[]⟩, .string ⟨#[]⟩, .slice aa 0 ca, .slice ac 0 cc] 35 (0, 0))) := ⟨(Below.refl _ _).alloc (Nat.le_refl _) _, Go.heap_alloc_new w _⟩
  go_enter Tryz.func25, Tryz.ntmps25
  go_upto_region 33 with (go_at_call 21; refine (between_any _ _ _ _).mono ?_; rintro e w1 ⟨rfl, rfl⟩)
  revert HB0
  generalize w.alloc (.cells #[.int .i64 13, .bool false, .bool false, .bool false, .bool false, .int .i64 0, .int .i64 0, .int .i64 0, .int .i64 0, .string ⟨#[]⟩, .string ⟨#[]⟩, .string ⟨#[]⟩, .slice aa 0 ca, .slice ac 0 cc] 35) = W0
  intro HB0
  have x1 := fun o => Lib.cell_of_heap HB0.out.2 o
  go_wp2_with fail
  refine (HC.out _).mono ?_
  rintro e w1 ⟨rfl, hb⟩
  have HB0 : Hid (Below w.heap.size w w1 ∧ w1.heap[w.heap.size]? = _) := ⟨below_step HB0.out.1 hb, (hb.block _ (Array.getElem?_eq_some_iff.1 HB0.out.2).1).trans HB0.out.2⟩
  clear hb x1
  have x1 := fun o => Lib.cell_of_heap HB0.out.2 o
  clear HC
  go_wp2
  go_loopw [5] (fun x wr => x = .int .i64 0 ∧ Hid (Below w.heap.size w wr ∧ wr.heap[w.heap.size]? = some (.cells #[.int .i64 13, .bool false, .bool false, .bool false, .bool false, .int .i64 0, .int .i64 0, .int .i64 0, .int .i64 0, .string ⟨#[]⟩, .string ⟨#[]⟩, .string ⟨#[]⟩, .slice aa 0 ca, .slice ac 0 cc] 35 (0, 0)))) (fun _ _ => 0)
  case atStart => exact ⟨rfl, HB0⟩
  case round =>
    obtain ⟨rfl, HB0⟩ := hrel
    have x2 := fun o => Lib.cell_of_heap HB0.out.2 o
    go_wp2
    go_loopw [7] (fun x wr => x = .int .i64 0 ∧ Hid (Below w.heap.size w wr ∧ wr.heap[w.heap.size]? = some (.cells #[.int .i64 13, .bool false, .bool false, .bool false, .bool false, .int .i64 0, .int .i64 0, .int .i64 0, .int .i64 0, .string ⟨#[]⟩, .string ⟨#[]⟩, .string ⟨#[]⟩, .slice aa 0 ca, .slice ac 0 cc] 35 (0, 0)))) (fun _ _ => 0)
    case atStart => exact ⟨rfl, HB0⟩
    case round =>
      obtain ⟨rfl, HB0⟩ := hrel
      have x3 := fun o => Lib.cell_of_heap HB0.out.2 o
      go_wp2
      go_ret
      exact ⟨rfl, HB0.out.1⟩
set_option maxHeartbeats 16000000 in
set_option maxRecDepth 100000 in
theorem rckP_k14  (aa ac : Option Addr) (ca cc : Nat) (w : World) :
    Calls Tryz.prog 25 #[.agg #[.int .i64 14, .bool false, .bool false, .bool false, .bool false, .int .i64 0, .int .i64 0, .int .i64 0, .int .i64 0, .string ⟨#[]⟩, .string ⟨#[]⟩, .string ⟨#[]⟩, .slice aa 0 ca, .slice ac 0 cc]] w fun e w' => e = .returned (.int .i64 (0)) ∧ Below w.heap.size w w' := by
  have HC := hide (fun W => hasId_any 14 0 false false false false 0 0 0 ⟨#[]⟩ ⟨#[]⟩ ⟨#[]⟩ aa ac 0 0 ca cc W)
  rw [show hasB 14 0 = false by decide] at HC
  have HB0 : Hid (Below w.heap.size w (w.alloc (.cells #[.int .i64 14, .bool false, .bool false, .bool false, .bool false, .int .i64 0, .int .i64 0, .int .i64 0, .int .i64 0, .string ⟨#[]⟩, .string ⟨#[]⟩, .string ⟨#[]⟩, .slice aa 0 ca, .slice ac 0 cc] 35)) ∧ (w.alloc (.cells #[.int .i64 14, .bool false, .bool false, .bool false, .bool false, .int .i64 0, .int .i64 0, .int .i64 0, .int .i64 0, .string ⟨#[]⟩, .string ⟨#[]⟩, .string ⟨#[]⟩, .slice aa 0 ca, .slice ac 0 cc] 35)).heap[w.heap.size]? = some (.cells #[.int .i64 14, .bool false, .bool false, .bool false, .bool false, .int .i64 0, .int .i64 0, .int .i64 0, .int .i64 0, .string ⟨#[]⟩, .string ⟨#[]⟩, .string ⟨#[]⟩, .slice aa 0 ca, .slice ac 0 cc] 35 (0, 0))) := ⟨(Below.refl _ _).alloc (Nat.le_refl _) _, Go.heap_alloc_new w _⟩
  go_enter Tryz.func25, Tryz.ntmps25
  go_upto_region 33 with (go_at_call 21; refine (between_any _ _ _ _).mono ?_; rintro e w1 ⟨rfl, rfl⟩)
  revert HB0
  generalize w.alloc (.cells #[.int .i64 14, .bool false, .bool false, .bool false, .bool false, .int .i64 0, .int .i64 0, .int .i64 0, .int .i64 0, .string ⟨#[]⟩, .string ⟨#[]⟩, .string ⟨#[]⟩, .slice aa 0 ca, .slice ac 0 cc] 35) = W0
  intro HB0
  have x1 := fun o => Lib.cell_of_heap HB0.out.2 o
  go_wp2_with fail
  refine (HC.out _).mono ?_
  rintro e w1 ⟨rfl, hb⟩
  have HB0 : Hid (Below w.heap.size w w1 ∧ w1.heap[w.heap.size]? = _) := ⟨below_step HB0.out.1 hb, (hb.block _ (Array.getElem?_eq_some_iff.1 HB0.out.2).1).trans HB0.out.2⟩
  clear hb x1
  have x1 := fun o => Lib.cell_of_heap HB0.out.2 o
  clear HC
  go_wp2
  go_loopw [5] (fun x wr => x = .int .i64 0 ∧ Hid (Below w.heap.size w wr ∧ wr.heap[w.heap.size]? = some (.cells #[.int .i64 14, .bool false, .bool false, .bool false, .bool false, .int .i64 0, .int .i64 0, .int .i64 0, .int .i64 0, .string ⟨#[]⟩, .string ⟨#[]⟩, .string ⟨#[]⟩, .slice aa 0 ca, .slice ac 0 cc] 35 (0, 0)))) (fun _ _ => 0)
  case atStart => exact ⟨rfl, HB0⟩
  case round =>
    obtain ⟨rfl, HB0⟩ := hrel
    have x2 := fun o => Lib.cell_of_heap HB0.out.2 o
    go_wp2
    go_loopw [7] (fun x wr => x = .int .i64 0 ∧ Hid (Below w.heap.size w wr ∧ wr.heap[w.heap.size]? = some (.cells #[.int .i64 14, .bool false, .bool false, .bool false, .bool false, .int .i64 0, .int .i64 0, .int .i64 0, .int .i64 0, .string ⟨#[]⟩, .string ⟨#[]⟩, .string ⟨#[]⟩, .slice aa 0 ca, .slice ac 0 cc] 35 (0, 0)))) (fun _ _ => 0)
    case atStart => exact ⟨rfl, HB0⟩
    case round =>
      obtain ⟨rfl, HB0⟩ := hrel
      have x3 := fun o => Lib.cell_of_heap HB0.out.2 o
      go_wp2
      go_ret
      exact ⟨rfl, HB0.out.1⟩
set_option maxHeartbeats 16000000 in
set_option maxRecDepth 100000 in
theorem rckP_k4 (i : Int) (aa ac : Option Addr) (ca cc : Nat) (w : World) :
    Calls Tryz.prog 25 #[.agg #[.int .i64 4, .bool false, .bool false, .bool false, .bool false, .int .i64 0, .int .i64 i, .int .i64 0, .int .i64 0, .string ⟨#[]⟩, .string ⟨#[]⟩, .string ⟨#[]⟩, .slice aa 0 ca, .slice ac 0 cc]] w fun e w' => e = .returned (.int .i64 (idE i)) ∧ Below w.heap.size w w' := by
  have HC := hide (fun W => hasId_any 4 0 false false false false i 0 0 ⟨#[]⟩ ⟨#[]⟩ ⟨#[]⟩ aa ac 0 0 ca cc W)
  rw [show hasB 4 0 = true by decide] at HC
  by_cases hi : i < 1 ∨ 65535 < i
  · rw [idE, if_pos hi]
    have HB0 : Hid (Below w.heap.size w (w.alloc (.cells #[.int .i64 4, .bool false, .bool false, .bool false, .bool false, .int .i64 0, .int .i64 i, .int .i64 0, .int .i64 0, .string ⟨#[]⟩, .string ⟨#[]⟩, .string ⟨#[]⟩, .slice aa 0 ca, .slice ac 0 cc] 35)) ∧ (w.alloc (.cells #[.int .i64 4, .bool false, .bool false, .bool false, .bool false, .int .i64 0, .int .i64 i, .int .i64 0, .int .i64 0, .string ⟨#[]⟩, .string ⟨#[]⟩, .string ⟨#[]⟩, .slice aa 0 ca, .slice ac 0 cc] 35)).heap[w.heap.size]? = some (.cells #[.int .i64 4, .bool false, .bool false, .bool false, .bool false, .int .i64 0, .int .i64 i, .int .i64 0, .int .i64 0, .string ⟨#[]⟩, .string ⟨#[]⟩, .string ⟨#[]⟩, .slice aa 0 ca, .slice ac 0 cc] 35 (0, 0))) := ⟨(Below.refl _ _).alloc (Nat.le_refl _) _, Go.heap_alloc_new w _⟩
    go_enter Tryz.func25, Tryz.ntmps25
    go_upto_region 33 with (go_at_call 21; refine (between_any _ _ _ _).mono ?_; rintro e w1 ⟨rfl, rfl⟩)
    revert HB0
    generalize w.alloc (.cells #[.int .i64 4, .bool false, .bool false, .bool false, .bool false, .int .i64 0, .int .i64 i, .int .i64 0, .int .i64 0, .string ⟨#[]⟩, .string ⟨#[]⟩, .string ⟨#[]⟩, .slice aa 0 ca, .slice ac 0 cc] 35) = W0
    intro HB0
    have x1 := fun o => Lib.cell_of_heap HB0.out.2 o
    go_wp2_with fail
    refine (HC.out _).mono ?_
    rintro e w1 ⟨rfl, hb⟩
    have HB0 : Hid (Below w.heap.size w w1 ∧ w1.heap[w.heap.size]? = _) := ⟨below_step HB0.out.1 hb, (hb.block _ (Array.getElem?_eq_some_iff.1 HB0.out.2).1).trans HB0.out.2⟩
    clear hb x1
    have x1 := fun o => Lib.cell_of_heap HB0.out.2 o
    clear HC
    go_wp2_with (go_at_call 21; refine (between_no _ _ _ _ (by omega)).mono ?_; rintro e w1 ⟨rfl, rfl⟩)
    go_ret
    exact ⟨rfl, HB0.out.1⟩
  · rw [idE, if_neg hi]
    have HB0 : Hid (Below w.heap.size w (w.alloc (.cells #[.int .i64 4, .bool false, .bool false, .bool false, .bool false, .int .i64 0, .int .i64 i, .int .i64 0, .int .i64 0, .string ⟨#[]⟩, .string ⟨#[]⟩, .string ⟨#[]⟩, .slice aa 0 ca, .slice ac 0 cc] 35)) ∧ (w.alloc (.cells #[.int .i64 4, .bool false, .bool false, .bool false, .bool false, .int .i64 0, .int .i64 i, .int .i64 0, .int .i64 0, .string ⟨#[]⟩, .string ⟨#[]⟩, .string ⟨#[]⟩, .slice aa 0 ca, .slice ac 0 cc] 35)).heap[w.heap.size]? = some (.cells #[.int .i64 4, .bool false, .bool false, .bool false, .bool false, .int .i64 0, .int .i64 i, .int .i64 0, .int .i64 0, .string ⟨#[]⟩, .string ⟨#[]⟩, .string ⟨#[]⟩, .slice aa 0 ca, .slice ac 0 cc] 35 (0, 0))) := ⟨(Below.refl _ _).alloc (Nat.le_refl _) _, Go.heap_alloc_new w _⟩
    go_enter Tryz.func25, Tryz.ntmps25
    go_upto_region 33 with (go_at_call 21; refine (between_any _ _ _ _).mono ?_; rintro e w1 ⟨rfl, rfl⟩)
    revert HB0
    generalize w.alloc (.cells #[.int .i64 4, .bool false, .bool false, .bool false, .bool false, .int .i64 0, .int .i64 i, .int .i64 0, .int .i64 0, .string ⟨#[]⟩, .string ⟨#[]⟩, .string ⟨#[]⟩, .slice aa 0 ca, .slice ac 0 cc] 35) = W0
    intro HB0
    have x1 := fun o => Lib.cell_of_heap HB0.out.2 o
    go_wp2_with fail
    refine (HC.out _).mono ?_
    rintro e w1 ⟨rfl, hb⟩
    have HB0 : Hid (Below w.heap.size w w1 ∧ w1.heap[w.heap.size]? = _) := ⟨below_step HB0.out.1 hb, (hb.block _ (Array.getElem?_eq_some_iff.1 HB0.out.2).1).trans HB0.out.2⟩
    clear hb x1
    have x1 := fun o => Lib.cell_of_heap HB0.out.2 o
    clear HC
    go_wp2_with (go_at_call 21; refine (between_yes _ _ _ _ (by omega)).mono ?_; rintro e w1 ⟨rfl, rfl⟩)
    go_loopw [5] (fun x wr => x = .int .i64 0 ∧ Hid (Below w.heap.size w wr ∧ wr.heap[w.heap.size]? = some (.cells #[.int .i64 4, .bool false, .bool false, .bool false, .bool false, .int .i64 0, .int .i64 i, .int .i64 0, .int .i64 0, .string ⟨#[]⟩, .string ⟨#[]⟩, .string ⟨#[]⟩, .slice aa 0 ca, .slice ac 0 cc] 35 (0, 0)))) (fun _ _ => 0)
    case atStart => exact ⟨rfl, HB0⟩
    case round =>
      obtain ⟨rfl, HB0⟩ := hrel
      have x2 := fun o => Lib.cell_of_heap HB0.out.2 o
      go_wp2
      go_loopw [7] (fun x wr => x = .int .i64 0 ∧ Hid (Below w.heap.size w wr ∧ wr.heap[w.heap.size]? = some (.cells #[.int .i64 4, .bool false, .bool false, .bool false, .bool false, .int .i64 0, .int .i64 i, .int .i64 0, .int .i64 0, .string ⟨#[]⟩, .string ⟨#[]⟩, .string ⟨#[]⟩, .slice aa 0 ca, .slice ac 0 cc] 35 (0, 0)))) (fun _ _ => 0)
      case atStart => exact ⟨rfl, HB0⟩
      case round =>
        obtain ⟨rfl, HB0⟩ := hrel
        have x3 := fun o => Lib.cell_of_heap HB0.out.2 o
        go_wp2
        go_ret
        exact ⟨rfl, HB0.out.1⟩
set_option maxHeartbeats 16000000 in
set_option maxRecDepth 100000 in
theorem rckP_k11 (i : Int) (aa ac : Option Addr) (ca cc : Nat) (w : World) :
    Calls Tryz.prog 25 #[.agg #[.int .i64 11, .bool false, .bool false, .bool false, .bool false, .int .i64 0, .int .i64 i, .int .i64 0, .int .i64 0, .string ⟨#[]⟩, .string ⟨#[]⟩, .string ⟨#[]⟩, .slice aa 0 ca, .slice ac 0 cc]] w fun e w' => e = .returned (.int .i64 (idE i)) ∧ Below w.heap.size w w' := by
  have HC := hide (fun W => hasId_any 11 0 false false false false i 0 0 ⟨#[]⟩ ⟨#[]⟩ ⟨#[]⟩ aa ac 0 0 ca cc W)
  rw [show hasB 11 0 = true by decide] at HC
  by_cases hi : i < 1 ∨ 65535 < i
  · rw [idE, if_pos hi]
    have HB0 : Hid (Below w.heap.size w (w.alloc (.cells #[.int .i64 11, .bool false, .bool false, .bool false, .bool false, .int .i64 0, .int .i64 i, .int .i64 0, .int .i64 0, .string ⟨#[]⟩, .string ⟨#[]⟩, .string ⟨#[]⟩, .slice aa 0 ca, .slice ac 0 cc] 35)) ∧ (w.alloc (.cells #[.int .i64 11, .bool false, .bool false, .bool false, .bool false, .int .i64 0, .int .i64 i, .int .i64 0, .int .i64 0, .string ⟨#[]⟩, .string ⟨#[]⟩, .string ⟨#[]⟩, .slice aa 0 ca, .slice ac 0 cc] 35)).heap[w.heap.size]? = some (.cells #[.int .i64 11, .bool false, .bool false, .bool false, .bool false, .int .i64 0, .int .i64 i, .int .i64 0, .int .i64 0, .string ⟨#[]⟩, .string ⟨#[]⟩, .string ⟨#[]⟩, .slice aa 0 ca, .slice ac 0 cc] 35 (0, 0))) := ⟨(Below.refl _ _).alloc (Nat.le_refl _) _, Go.heap_alloc_new w _⟩
    go_enter Tryz.func25, Tryz.ntmps25
    go_upto_region 33 with (go_at_call 21; refine (between_any _ _ _ _).mono ?_; rintro e w1 ⟨rfl, rfl⟩)
    revert HB0
    generalize w.alloc (.cells #[.int .i64 11, .bool false, .bool false, .bool false, .bool false, .int .i64 0, .int .i64 i, .int .i64 0, .int .i64 0, .string ⟨#[]⟩, .string ⟨#[]⟩, .string ⟨#[]⟩, .slice aa 0 ca, .slice ac 0 cc] 35) = W0
    intro HB0
    have x1 := fun o => Lib.cell_of_heap HB0.out.2 o
    go_wp2_with fail
    refine (HC.out _).mono ?_
    rintro e w1 ⟨rfl, hb⟩
    have HB0 : Hid (Below w.heap.size w w1 ∧ w1.heap[w.heap.size]? = _) := ⟨below_step HB0.out.1 hb, (hb.block _ (Array.getElem?_eq_some_iff.1 HB0.out.2).1).trans HB0.out.2⟩
    clear hb x1
    have x1 := fun o => Lib.cell_of_heap HB0.out.2 o
    clear HC
    go_wp2_with (go_at_call 21; refine (between_no _ _ _ _ (by omega)).mono ?_; rintro e w1 ⟨rfl, rfl⟩)
    go_ret
    exact ⟨rfl, HB0.out.1⟩
  · rw [idE, if_neg hi]
    have HB0 : Hid (Below w.heap.size w (w.alloc (.cells #[.int .i64 11, .bool false, .bool false, .bool false, .bool false, .int .i64 0, .int .i64 i, .int .i64 0, .int .i64 0, .string ⟨#[]⟩, .string ⟨#[]⟩, .string ⟨#[]⟩, .slice aa 0 ca, .slice ac 0 cc] 35)) ∧ (w.alloc (.cells #[.int .i64 11, .bool false, .bool false, .bool false, .bool false, .int .i64 0, .int .i64 i, .int .i64 0, .int .i64 0, .string ⟨#[]⟩, .string ⟨#[]⟩, .string ⟨#[]⟩, .slice aa 0 ca, .slice ac 0 cc] 35)).heap[w.heap.size]? = some (.cells #[.int .i64 11, .bool false, .bool false, .bool false, .bool false, .int .i64 0, .int .i64 i, .int .i64 0, .int .i64 0, .string ⟨#[]⟩, .string ⟨#[]⟩, .string ⟨#[]⟩, .slice aa 0 ca, .slice ac 0 cc] 35 (0, 0))) := ⟨(Below.refl _ _).alloc (Nat.le_refl _) _, Go.heap_alloc_new w _⟩
    go_enter Tryz.func25, Tryz.ntmps25
    go_upto_region 33 with (go_at_call 21; refine (between_any _ _ _ _).mono ?_; rintro e w1 ⟨rfl, rfl⟩)
    revert HB0
    generalize w.alloc (.cells #[.int .i64 11, .bool false, .bool false, .bool false, .bool false, .int .i64 0, .int .i64 i, .int .i64 0, .int .i64 0, .string ⟨#[]⟩, .string ⟨#[]⟩, .string ⟨#[]⟩, .slice aa 0 ca, .slice ac 0 cc] 35) = W0
    intro HB0
    have x1 := fun o => Lib.cell_of_heap HB0.out.2 o
    go_wp2_with fail
    refine (HC.out _).mono ?_
    rintro e w1 ⟨rfl, hb⟩
    have HB0 : Hid (Below w.heap.size w w1 ∧ w1.heap[w.heap.size]? = _) := ⟨below_step HB0.out.1 hb, (hb.block _ (Array.getElem?_eq_some_iff.1 HB0.out.2).1).trans HB0.out.2⟩
    clear hb x1
    have x1 := fun o => Lib.cell_of_heap HB0.out.2 o
    clear HC
    go_wp2_with (go_at_call 21; refine (between_yes _ _ _ _ (by omega)).mono ?_; rintro e w1 ⟨rfl, rfl⟩)
    go_loopw [5] (fun x wr => x = .int .i64 0 ∧ Hid (Below w.heap.size w wr ∧ wr.heap[w.heap.size]? = some (.cells #[.int .i64 11, .bool false, .bool false, .bool false, .bool false, .int .i64 0, .int .i64 i, .int .i64 0, .int .i64 0, .string ⟨#[]⟩, .string ⟨#[]⟩, .string ⟨#[]⟩, .slice aa 0 ca, .slice ac 0 cc] 35 (0, 0)))) (fun _ _ => 0)
    case atStart => exact ⟨rfl, HB0⟩
    case round =>
      obtain ⟨rfl, HB0⟩ := hrel
      have x2 := fun o => Lib.cell_of_heap HB0.out.2 o
      go_wp2
      go_loopw [7] (fun x wr => x = .int .i64 0 ∧ Hid (Below w.heap.size w wr ∧ wr.heap[w.heap.size]? = some (.cells #[.int .i64 11, .bool false, .bool false, .bool false, .bool false, .int .i64 0, .int .i64 i, .int .i64 0, .int .i64 0, .string ⟨#[]⟩, .string ⟨#[]⟩, .string ⟨#[]⟩, .slice aa 0 ca, .slice ac 0 cc] 35 (0, 0)))) (fun _ _ => 0)
      case atStart => exact ⟨rfl, HB0⟩
      case round =>
        obtain ⟨rfl, HB0⟩ := hrel
        have x3 := fun o => Lib.cell_of_heap HB0.out.2 o
        go_wp2
        go_ret
        exact ⟨rfl, HB0.out.1⟩
end Go.Proofs.YtnjdpibgfbbkcabGreatDoor
