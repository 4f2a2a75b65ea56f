/-
  The reference's CheckPacket of a packet that has nothing that its kind does not name: kinds 1 and 2.
-/
import Derived.Test.YtnjdpibgfbbkcabGreatDoorRefPkCheck
namespace Go.Proofs.YtnjdpibgfbbkcabGreatDoor
open Go.RowKit Go.PlainAid

set_option maxHeartbeats 16000000 in
set_option maxRecDepth 100000 in
theorem rckP_k1 (c : Bool) (kp : Int) (cl : ByteArray) (aa ac : Option Addr) (ca cc : Nat) (w : World) :
    Calls Tryz.prog 25 #[.agg #[.int .i64 1, .bool false, .bool false, .bool c, .bool false, .int .i64 0, .int .i64 0, .int .i64 kp, .int .i64 0, .string cl, .string ⟨#[]⟩, .string ⟨#[]⟩, .slice aa 0 ca, .slice ac 0 cc]] w fun e w' => e = .returned (.int .i64 (if 20 < cl.size then 2 else if nameB cl = false then 1 else if kp < 0 ∨ 65535 < kp then 3 else 0)) ∧ Below w.heap.size w w' := by
  have HC := hide (fun W => hasId_any 1 0 false false c false 0 kp 0 cl ⟨#[]⟩ ⟨#[]⟩ aa ac 0 0 ca cc W)
  rw [show hasB 1 0 = false by decide] at HC
  by_cases h1 : 20 < cl.size
  · rw [if_pos h1]
    have h1e : (20 : Int) < cl.size := by omega
    have HB0 : Hid (Below w.heap.size w (w.alloc (.cells #[.int .i64 1, .bool false, .bool false, .bool c, .bool false, .int .i64 0, .int .i64 0, .int .i64 kp, .int .i64 0, .string cl, .string ⟨#[]⟩, .string ⟨#[]⟩, .slice aa 0 ca, .slice ac 0 cc] 35)) ∧ (w.alloc (.cells #[.int .i64 1, .bool false, .bool false, .bool c, .bool false, .int .i64 0, .int .i64 0, .int .i64 kp, .int .i64 0, .string cl, .string ⟨#[]⟩, .string ⟨#[]⟩, .slice aa 0 ca, .slice ac 0 cc] 35)).heap[w.heap.size]? = some (.cells #[.int .i64 1, .bool false, .bool false, .bool c, .bool false, .int .i64 0, .int .i64 0, .int .i64 kp, .int .i64 0, .string cl, .string ⟨#[]⟩, .string ⟨#[]⟩, .slice aa 0 ca, .slice ac 0 cc] 35 (0, 0))) := ⟨(Below.refl _ _).alloc (Nat.le_refl _) _, Go.heap_alloc_new w _⟩
    go_enter Tryz.func25, Tryz.ntmps25
    go_upto_region 12 with (go_at_call 21; refine (between_any _ _ _ _).mono ?_; rintro e w1 ⟨rfl, rfl⟩)
    revert HB0
    generalize w.alloc (.cells #[.int .i64 1, .bool false, .bool false, .bool c, .bool false, .int .i64 0, .int .i64 0, .int .i64 kp, .int .i64 0, .string cl, .string ⟨#[]⟩, .string ⟨#[]⟩, .slice aa 0 ca, .slice ac 0 cc] 35) = W0
    intro HB0
    have x1 := fun o => Lib.cell_of_heap HB0.out.2 o
    go_wp2
    go_ret
    exact ⟨rfl, HB0.out.1⟩
  · rw [if_neg h1]
    have h1e : ¬ (20 : Int) < cl.size := by omega
    have CI := hide (fun W => isClient_any cl W (by omega))
    generalize nameB cl = NB at *
    cases NB with
    | false =>
      rw [if_pos rfl]
      have HB0 : Hid (Below w.heap.size w (w.alloc (.cells #[.int .i64 1, .bool false, .bool false, .bool c, .bool false, .int .i64 0, .int .i64 0, .int .i64 kp, .int .i64 0, .string cl, .string ⟨#[]⟩, .string ⟨#[]⟩, .slice aa 0 ca, .slice ac 0 cc] 35)) ∧ (w.alloc (.cells #[.int .i64 1, .bool false, .bool false, .bool c, .bool false, .int .i64 0, .int .i64 0, .int .i64 kp, .int .i64 0, .string cl, .string ⟨#[]⟩, .string ⟨#[]⟩, .slice aa 0 ca, .slice ac 0 cc] 35)).heap[w.heap.size]? = some (.cells #[.int .i64 1, .bool false, .bool false, .bool c, .bool false, .int .i64 0, .int .i64 0, .int .i64 kp, .int .i64 0, .string cl, .string ⟨#[]⟩, .string ⟨#[]⟩, .slice aa 0 ca, .slice ac 0 cc] 35 (0, 0))) := ⟨(Below.refl _ _).alloc (Nat.le_refl _) _, Go.heap_alloc_new w _⟩
      go_enter Tryz.func25, Tryz.ntmps25
      go_upto_region 12 with (go_at_call 21; refine (between_any _ _ _ _).mono ?_; rintro e w1 ⟨rfl, rfl⟩)
      revert HB0
      generalize w.alloc (.cells #[.int .i64 1, .bool false, .bool false, .bool c, .bool false, .int .i64 0, .int .i64 0, .int .i64 kp, .int .i64 0, .string cl, .string ⟨#[]⟩, .string ⟨#[]⟩, .slice aa 0 ca, .slice ac 0 cc] 35) = W0
      intro HB0
      have x1 := fun o => Lib.cell_of_heap HB0.out.2 o
      go_wp2_with (go_at_call 49; refine (CI.out _).mono ?_; rintro e w1 ⟨rfl, rfl⟩)
      go_ret
      exact ⟨rfl, HB0.out.1⟩
    | true =>
      rw [if_neg (by decide)]
      by_cases h2 : kp < 0 ∨ 65535 < kp
      · rw [if_pos h2]
        have HB0 : Hid (Below w.heap.size w (w.alloc (.cells #[.int .i64 1, .bool false, .bool false, .bool c, .bool false, .int .i64 0, .int .i64 0, .int .i64 kp, .int .i64 0, .string cl, .string ⟨#[]⟩, .string ⟨#[]⟩, .slice aa 0 ca, .slice ac 0 cc] 35)) ∧ (w.alloc (.cells #[.int .i64 1, .bool false, .bool false, .bool c, .bool false, .int .i64 0, .int .i64 0, .int .i64 kp, .int .i64 0, .string cl, .string ⟨#[]⟩, .string ⟨#[]⟩, .slice aa 0 ca, .slice ac 0 cc] 35)).heap[w.heap.size]? = some (.cells #[.int .i64 1, .bool false, .bool false, .bool c, .bool false, .int .i64 0, .int .i64 0, .int .i64 kp, .int .i64 0, .string cl, .string ⟨#[]⟩, .string ⟨#[]⟩, .slice aa 0 ca, .slice ac 0 cc] 35 (0, 0))) := ⟨(Below.refl _ _).alloc (Nat.le_refl _) _, Go.heap_alloc_new w _⟩
        go_enter Tryz.func25, Tryz.ntmps25
        go_upto_region 12 with (go_at_call 21; refine (between_any _ _ _ _).mono ?_; rintro e w1 ⟨rfl, rfl⟩)
        revert HB0
        generalize w.alloc (.cells #[.int .i64 1, .bool false, .bool false, .bool c, .bool false, .int .i64 0, .int .i64 0, .int .i64 kp, .int .i64 0, .string cl, .string ⟨#[]⟩, .string ⟨#[]⟩, .slice aa 0 ca, .slice ac 0 cc] 35) = W0
        intro HB0
        have x1 := fun o => Lib.cell_of_heap HB0.out.2 o
        go_wp2_with (first | (go_at_call 49; refine (CI.out _).mono ?_; rintro e w1 ⟨rfl, rfl⟩) | (go_at_call 21; refine (between_no _ _ _ _ (by omega)).mono ?_; rintro e w1 ⟨rfl, rfl⟩))
        go_ret
        exact ⟨rfl, HB0.out.1⟩
      · rw [if_neg h2]
        have HB0 : Hid (Below w.heap.size w (w.alloc (.cells #[.int .i64 1, .bool false, .bool false, .bool c, .bool false, .int .i64 0, .int .i64 0, .int .i64 kp, .int .i64 0, .string cl, .string ⟨#[]⟩, .string ⟨#[]⟩, .slice aa 0 ca, .slice ac 0 cc] 35)) ∧ (w.alloc (.cells #[.int .i64 1, .bool false, .bool false, .bool c, .bool false, .int .i64 0, .int .i64 0, .int .i64 kp, .int .i64 0, .string cl, .string ⟨#[]⟩, .string ⟨#[]⟩, .slice aa 0 ca, .slice ac 0 cc] 35)).heap[w.heap.size]? = some (.cells #[.int .i64 1, .bool false, .bool false, .bool c, .bool false, .int .i64 0, .int .i64 0, .int .i64 kp, .int .i64 0, .string cl, .string ⟨#[]⟩, .string ⟨#[]⟩, .slice aa 0 ca, .slice ac 0 cc] 35 (0, 0))) := ⟨(Below.refl _ _).alloc (Nat.le_refl _) _, Go.heap_alloc_new w _⟩
        go_enter Tryz.func25, Tryz.ntmps25
        go_upto_region 12 with (go_at_call 21; refine (between_any _ _ _ _).mono ?_; rintro e w1 ⟨rfl, rfl⟩)
        revert HB0
        generalize w.alloc (.cells #[.int .i64 1, .bool false, .bool false, .bool c, .bool false, .int .i64 0, .int .i64 0, .int .i64 kp, .int .i64 0, .string cl, .string ⟨#[]⟩, .string ⟨#[]⟩, .slice aa 0 ca, .slice ac 0 cc] 35) = W0
        intro HB0
        have x1 := fun o => Lib.cell_of_heap HB0.out.2 o
        go_upto_region 33 with (first | (go_at_call 49; refine (CI.out _).mono ?_; rintro e w1 ⟨rfl, rfl⟩) | (go_at_call 21; refine (between_yes _ _ _ _ (by omega)).mono ?_; rintro e w1 ⟨rfl, rfl⟩))
        go_wp2_with fail
        refine (HC.out _).mono ?_
        rintro e w1 ⟨rfl, hb⟩
        have HB0 : Hid (Below w.heap.size w w1 ∧ w1.heap[w.heap.size]? = _) := ⟨below_step HB0.out.1 hb, (hb.block _ (Array.getElem?_eq_some_iff.1 HB0.out.2).1).trans HB0.out.2⟩
        clear hb x1
        have x1 := fun o => Lib.cell_of_heap HB0.out.2 o
        clear HC
        go_wp2
        go_loopw [5] (fun x wr => x = .int .i64 0 ∧ Hid (Below w.heap.size w wr ∧ wr.heap[w.heap.size]? = some (.cells #[.int .i64 1, .bool false, .bool false, .bool c, .bool false, .int .i64 0, .int .i64 0, .int .i64 kp, .int .i64 0, .string cl, .string ⟨#[]⟩, .string ⟨#[]⟩, .slice aa 0 ca, .slice ac 0 cc] 35 (0, 0)))) (fun _ _ => 0)
        case atStart => exact ⟨rfl, HB0⟩
        case round =>
          obtain ⟨rfl, HB0⟩ := hrel
          have x2 := fun o => Lib.cell_of_heap HB0.out.2 o
          go_wp2
          go_loopw [7] (fun x wr => x = .int .i64 0 ∧ Hid (Below w.heap.size w wr ∧ wr.heap[w.heap.size]? = some (.cells #[.int .i64 1, .bool false, .bool false, .bool c, .bool false, .int .i64 0, .int .i64 0, .int .i64 kp, .int .i64 0, .string cl, .string ⟨#[]⟩, .string ⟨#[]⟩, .slice aa 0 ca, .slice ac 0 cc] 35 (0, 0)))) (fun _ _ => 0)
          case atStart => exact ⟨rfl, HB0⟩
          case round =>
            obtain ⟨rfl, HB0⟩ := hrel
            have x3 := fun o => Lib.cell_of_heap HB0.out.2 o
            go_wp2
            go_ret
            exact ⟨rfl, HB0.out.1⟩
set_option maxHeartbeats 16000000 in
set_option maxRecDepth 100000 in
theorem rckP_k2 (s : Bool) (cd : Int) (aa ac : Option Addr) (ca cc : Nat) (w : World) :
    Calls Tryz.prog 25 #[.agg #[.int .i64 2, .bool false, .bool false, .bool false, .bool s, .int .i64 0, .int .i64 0, .int .i64 0, .int .i64 cd, .string ⟨#[]⟩, .string ⟨#[]⟩, .string ⟨#[]⟩, .slice aa 0 ca, .slice ac 0 cc]] w fun e w' => e = .returned (.int .i64 (if cd < 0 ∨ 5 < cd then 3 else if s = true ∧ cd ≠ 0 then 4 else 0)) ∧ Below w.heap.size w w' := by
  have HC := hide (fun W => hasId_any 2 0 false false false s 0 0 cd ⟨#[]⟩ ⟨#[]⟩ ⟨#[]⟩ aa ac 0 0 ca cc W)
  rw [show hasB 2 0 = false by decide] at HC
  by_cases h1 : cd < 0 ∨ 5 < cd
  · rw [if_pos h1]
    have HB0 : Hid (Below w.heap.size w (w.alloc (.cells #[.int .i64 2, .bool false, .bool false, .bool false, .bool s, .int .i64 0, .int .i64 0, .int .i64 0, .int .i64 cd, .string ⟨#[]⟩, .string ⟨#[]⟩, .string ⟨#[]⟩, .slice aa 0 ca, .slice ac 0 cc] 35)) ∧ (w.alloc (.cells #[.int .i64 2, .bool false, .bool false, .bool false, .bool s, .int .i64 0, .int .i64 0, .int .i64 0, .int .i64 cd, .string ⟨#[]⟩, .string ⟨#[]⟩, .string ⟨#[]⟩, .slice aa 0 ca, .slice ac 0 cc] 35)).heap[w.heap.size]? = some (.cells #[.int .i64 2, .bool false, .bool false, .bool false, .bool s, .int .i64 0, .int .i64 0, .int .i64 0, .int .i64 cd, .string ⟨#[]⟩, .string ⟨#[]⟩, .string ⟨#[]⟩, .slice aa 0 ca, .slice ac 0 cc] 35 (0, 0))) := ⟨(Below.refl _ _).alloc (Nat.le_refl _) _, Go.heap_alloc_new w _⟩
    go_enter Tryz.func25, Tryz.ntmps25
    go_upto_region 19 with (go_at_call 21; refine (between_any _ _ _ _).mono ?_; rintro e w1 ⟨rfl, rfl⟩)
    revert HB0
    generalize w.alloc (.cells #[.int .i64 2, .bool false, .bool false, .bool false, .bool s, .int .i64 0, .int .i64 0, .int .i64 0, .int .i64 cd, .string ⟨#[]⟩, .string ⟨#[]⟩, .string ⟨#[]⟩, .slice aa 0 ca, .slice ac 0 cc] 35) = W0
    intro HB0
    have x1 := fun o => Lib.cell_of_heap HB0.out.2 o
    go_wp2_with (go_at_call 21; refine (between_no _ _ _ _ (by omega)).mono ?_; rintro e w1 ⟨rfl, rfl⟩)
    go_ret
    exact ⟨rfl, HB0.out.1⟩
  · rw [if_neg h1]
    by_cases h2 : s = true ∧ cd ≠ 0
    · rw [if_pos h2]
      obtain ⟨h2, h3⟩ := h2
      subst h2
      have h3e : 0 < cd := by omega
      have HB0 : Hid (Below w.heap.size w (w.alloc (.cells #[.int .i64 2, .bool false, .bool false, .bool false, .bool true, .int .i64 0, .int .i64 0, .int .i64 0, .int .i64 cd, .string ⟨#[]⟩, .string ⟨#[]⟩, .string ⟨#[]⟩, .slice aa 0 ca, .slice ac 0 cc] 35)) ∧ (w.alloc (.cells #[.int .i64 2, .bool false, .bool false, .bool false, .bool true, .int .i64 0, .int .i64 0, .int .i64 0, .int .i64 cd, .string ⟨#[]⟩, .string ⟨#[]⟩, .string ⟨#[]⟩, .slice aa 0 ca, .slice ac 0 cc] 35)).heap[w.heap.size]? = some (.cells #[.int .i64 2, .bool false, .bool false, .bool false, .bool true, .int .i64 0, .int .i64 0, .int .i64 0, .int .i64 cd, .string ⟨#[]⟩, .string ⟨#[]⟩, .string ⟨#[]⟩, .slice aa 0 ca, .slice ac 0 cc] 35 (0, 0))) := ⟨(Below.refl _ _).alloc (Nat.le_refl _) _, Go.heap_alloc_new w _⟩
      go_enter Tryz.func25, Tryz.ntmps25
      go_upto_region 19 with (go_at_call 21; refine (between_any _ _ _ _).mono ?_; rintro e w1 ⟨rfl, rfl⟩)
      revert HB0
      generalize w.alloc (.cells #[.int .i64 2, .bool false, .bool false, .bool false, .bool true, .int .i64 0, .int .i64 0, .int .i64 0, .int .i64 cd, .string ⟨#[]⟩, .string ⟨#[]⟩, .string ⟨#[]⟩, .slice aa 0 ca, .slice ac 0 cc] 35) = W0
      intro HB0
      have x1 := fun o => Lib.cell_of_heap HB0.out.2 o
      go_wp2_with (go_at_call 21; refine (between_yes _ _ _ _ (by omega)).mono ?_; rintro e w1 ⟨rfl, rfl⟩)
      go_ret
      exact ⟨rfl, HB0.out.1⟩
    · rw [if_neg h2]
      cases s with
      | false =>
        have HB0 : Hid (Below w.heap.size w (w.alloc (.cells #[.int .i64 2, .bool false, .bool false, .bool false, .bool false, .int .i64 0, .int .i64 0, .int .i64 0, .int .i64 cd, .string ⟨#[]⟩, .string ⟨#[]⟩, .string ⟨#[]⟩, .slice aa 0 ca, .slice ac 0 cc] 35)) ∧ (w.alloc (.cells #[.int .i64 2, .bool false, .bool false, .bool false, .bool false, .int .i64 0, .int .i64 0, .int .i64 0, .int .i64 cd, .string ⟨#[]⟩, .string ⟨#[]⟩, .string ⟨#[]⟩, .slice aa 0 ca, .slice ac 0 cc] 35)).heap[w.heap.size]? = some (.cells #[.int .i64 2, .bool false, .bool false, .bool false, .bool false, .int .i64 0, .int .i64 0, .int .i64 0, .int .i64 cd, .string ⟨#[]⟩, .string ⟨#[]⟩, .string ⟨#[]⟩, .slice aa 0 ca, .slice ac 0 cc] 35 (0, 0))) := ⟨(Below.refl _ _).alloc (Nat.le_refl _) _, Go.heap_alloc_new w _⟩
        go_enter Tryz.func25, Tryz.ntmps25
        go_upto_region 19 with (go_at_call 21; refine (between_any _ _ _ _).mono ?_; rintro e w1 ⟨rfl, rfl⟩)
        revert HB0
        generalize w.alloc (.cells #[.int .i64 2, .bool false, .bool false, .bool false, .bool false, .int .i64 0, .int .i64 0, .int .i64 0, .int .i64 cd, .string ⟨#[]⟩, .string ⟨#[]⟩, .string ⟨#[]⟩, .slice aa 0 ca, .slice ac 0 cc] 35) = W0
        intro HB0
        have x1 := fun o => Lib.cell_of_heap HB0.out.2 o
        go_upto_region 33 with (go_at_call 21; refine (between_yes _ _ _ _ (by omega)).mono ?_; rintro e w1 ⟨rfl, rfl⟩)
        go_wp2_with fail
        refine (HC.out _).mono ?_
        rintro e w1 ⟨rfl, hb⟩
        have HB0 : Hid (Below w.heap.size w w1 ∧ w1.heap[w.heap.size]? = _) := ⟨below_step HB0.out.1 hb, (hb.block _ (Array.getElem?_eq_some_iff.1 HB0.out.2).1).trans HB0.out.2⟩
        clear hb x1
        have x1 := fun o => Lib.cell_of_heap HB0.out.2 o
        clear HC
        go_wp2
        go_loopw [5] (fun x wr => x = .int .i64 0 ∧ Hid (Below w.heap.size w wr ∧ wr.heap[w.heap.size]? = some (.cells #[.int .i64 2, .bool false, .bool false, .bool false, .bool false, .int .i64 0, .int .i64 0, .int .i64 0, .int .i64 cd, .string ⟨#[]⟩, .string ⟨#[]⟩, .string ⟨#[]⟩, .slice aa 0 ca, .slice ac 0 cc] 35 (0, 0)))) (fun _ _ => 0)
        case atStart => exact ⟨rfl, HB0⟩
        case round =>
          obtain ⟨rfl, HB0⟩ := hrel
          have x2 := fun o => Lib.cell_of_heap HB0.out.2 o
          go_wp2
          go_loopw [7] (fun x wr => x = .int .i64 0 ∧ Hid (Below w.heap.size w wr ∧ wr.heap[w.heap.size]? = some (.cells #[.int .i64 2, .bool false, .bool false, .bool false, .bool false, .int .i64 0, .int .i64 0, .int .i64 0, .int .i64 cd, .string ⟨#[]⟩, .string ⟨#[]⟩, .string ⟨#[]⟩, .slice aa 0 ca, .slice ac 0 cc] 35 (0, 0)))) (fun _ _ => 0)
          case atStart => exact ⟨rfl, HB0⟩
          case round =>
            obtain ⟨rfl, HB0⟩ := hrel
            have x3 := fun o => Lib.cell_of_heap HB0.out.2 o
            go_wp2
            go_ret
            exact ⟨rfl, HB0.out.1⟩
      | true =>
        have h3 : cd = 0 := by
          by_cases e : cd = 0
          · exact e
          · exact absurd ⟨rfl, e⟩ h2
        subst h3
        clear h1 h2
        have HB0 : Hid (Below w.heap.size w (w.alloc (.cells #[.int .i64 2, .bool false, .bool false, .bool false, .bool true, .int .i64 0, .int .i64 0, .int .i64 0, .int .i64 0, .string ⟨#[]⟩, .string ⟨#[]⟩, .string ⟨#[]⟩, .slice aa 0 ca, .slice ac 0 cc] 35)) ∧ (w.alloc (.cells #[.int .i64 2, .bool false, .bool false, .bool false, .bool true, .int .i64 0, .int .i64 0, .int .i64 0, .int .i64 0, .string ⟨#[]⟩, .string ⟨#[]⟩, .string ⟨#[]⟩, .slice aa 0 ca, .slice ac 0 cc] 35)).heap[w.heap.size]? = some (.cells #[.int .i64 2, .bool false, .bool false, .bool false, .bool true, .int .i64 0, .int .i64 0, .int .i64 0, .int .i64 0, .string ⟨#[]⟩, .string ⟨#[]⟩, .string ⟨#[]⟩, .slice aa 0 ca, .slice ac 0 cc] 35 (0, 0))) := ⟨(Below.refl _ _).alloc (Nat.le_refl _) _, Go.heap_alloc_new w _⟩
        go_enter Tryz.func25, Tryz.ntmps25
        go_upto_region 19 with (go_at_call 21; refine (between_any _ _ _ _).mono ?_; rintro e w1 ⟨rfl, rfl⟩)
        revert HB0
        generalize w.alloc (.cells #[.int .i64 2, .bool false, .bool false, .bool false, .bool true, .int .i64 0, .int .i64 0, .int .i64 0, .int .i64 0, .string ⟨#[]⟩, .string ⟨#[]⟩, .string ⟨#[]⟩, .slice aa 0 ca, .slice ac 0 cc] 35) = W0
        intro HB0
        have x1 := fun o => Lib.cell_of_heap HB0.out.2 o
        go_upto_region 33 with (go_at_call 21; refine (between_yes _ _ _ _ (by omega)).mono ?_; rintro e w1 ⟨rfl, rfl⟩)
        go_wp2_with fail
        refine (HC.out _).mono ?_
        rintro e w1 ⟨rfl, hb⟩
        have HB0 : Hid (Below w.heap.size w w1 ∧ w1.heap[w.heap.size]? = _) := ⟨below_step HB0.out.1 hb, (hb.block _ (Array.getElem?_eq_some_iff.1 HB0.out.2).1).trans HB0.out.2⟩
        clear hb x1
        have x1 := fun o => Lib.cell_of_heap HB0.out.2 o
        clear HC
        go_wp2
        go_loopw [5] (fun x wr => x = .int .i64 0 ∧ Hid (Below w.heap.size w wr ∧ wr.heap[w.heap.size]? = some (.cells #[.int .i64 2, .bool false, .bool false, .bool false, .bool true, .int .i64 0, .int .i64 0, .int .i64 0, .int .i64 0, .string ⟨#[]⟩, .string ⟨#[]⟩, .string ⟨#[]⟩, .slice aa 0 ca, .slice ac 0 cc] 35 (0, 0)))) (fun _ _ => 0)
        case atStart => exact ⟨rfl, HB0⟩
        case round =>
          obtain ⟨rfl, HB0⟩ := hrel
          have x2 := fun o => Lib.cell_of_heap HB0.out.2 o
          go_wp2
          go_loopw [7] (fun x wr => x = .int .i64 0 ∧ Hid (Below w.heap.size w wr ∧ wr.heap[w.heap.size]? = some (.cells #[.int .i64 2, .bool false, .bool false, .bool false, .bool true, .int .i64 0, .int .i64 0, .int .i64 0, .int .i64 0, .string ⟨#[]⟩, .string ⟨#[]⟩, .string ⟨#[]⟩, .slice aa 0 ca, .slice ac 0 cc] 35 (0, 0)))) (fun _ _ => 0)
          case atStart => exact ⟨rfl, HB0⟩
          case round =>
            obtain ⟨rfl, HB0⟩ := hrel
            have x3 := fun o => Lib.cell_of_heap HB0.out.2 o
            go_wp2
            go_ret
            exact ⟨rfl, HB0.out.1⟩
end Go.Proofs.YtnjdpibgfbbkcabGreatDoor
