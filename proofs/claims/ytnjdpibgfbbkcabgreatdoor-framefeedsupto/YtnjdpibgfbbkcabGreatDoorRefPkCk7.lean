/-
  The reference's CheckPacket of a packet that has nothing that its kind does not name: kinds 8 and 10.
-/
import Derived.Test.YtnjdpibgfbbkcabGreatDoorRefPkCheck
namespace Go.Proofs.YtnjdpibgfbbkcabGreatDoor
open Go.RowKit Go.PlainAid

theorem first_drop {α : Type} (f : α → Int) (l : List α) (j : Nat) (h : j < l.length) : firstE f (l.drop j) = if f l[j] ≠ 0 then f l[j] else firstE f (l.drop (j + 1)) := by
  rw [List.drop_eq_getElem_cons h]; rfl

set_option maxHeartbeats 16000000 in
set_option maxRecDepth 100000 in
theorem rckP_k8 (i : Int) (sa : List (ByteArray × Int)) (aa ac : Option Addr) (ca cc : Nat) (w : World) (hA : AsksIn w aa sa) (ha : ∀ a ∈ sa, a.1.size ≤ 1048576) :
    Calls Tryz.prog 25 #[.agg #[.int .i64 8, .bool false, .bool false, .bool false, .bool false, .int .i64 0, .int .i64 i, .int .i64 0, .int .i64 0, .string ⟨#[]⟩, .string ⟨#[]⟩, .string ⟨#[]⟩, .slice aa sa.length ca, .slice ac 0 cc]] w fun e w' => e = .returned (.int .i64 (if idE i ≠ 0 then idE i else if countE sa.length ≠ 0 then countE sa.length else firstE (askE 8) sa)) ∧ Below w.heap.size w w' := by
  have HC := hide (fun W => hasId_any 8 0 false false false false i 0 0 ⟨#[]⟩ ⟨#[]⟩ ⟨#[]⟩ aa ac sa.length 0 ca cc W)
  rw [show hasB 8 0 = true by decide] at HC
  have HA := hide hA
  have CA : Hid (∀ a ∈ sa, ∀ W, Calls Tryz.prog 50 #[.string a.1, .bool true] W fun e w' => e = .returned (.int .i64 (chk filtF a.1)) ∧ Below W.heap.size W w') := fun a h W => checkTopic_any a.1 true W (ha a h)
  clear hA ha
  by_cases hi : i < 1 ∨ 65535 < i
  · rw [idE, if_pos hi, if_pos (by decide)]
    have HB0 : Hid (Below w.heap.size w (w.alloc (.cells #[.int .i64 8, .bool false, .bool false, .bool false, .bool false, .int .i64 0, .int .i64 i, .int .i64 0, .int .i64 0, .string ⟨#[]⟩, .string ⟨#[]⟩, .string ⟨#[]⟩, .slice aa sa.length ca, .slice ac 0 cc] 35)) ∧ (w.alloc (.cells #[.int .i64 8, .bool false, .bool false, .bool false, .bool false, .int .i64 0, .int .i64 i, .int .i64 0, .int .i64 0, .string ⟨#[]⟩, .string ⟨#[]⟩, .string ⟨#[]⟩, .slice aa sa.length ca, .slice ac 0 cc] 35)).heap[w.heap.size]? = some (.cells #[.int .i64 8, .bool false, .bool false, .bool false, .bool false, .int .i64 0, .int .i64 i, .int .i64 0, .int .i64 0, .string ⟨#[]⟩, .string ⟨#[]⟩, .string ⟨#[]⟩, .slice aa sa.length ca, .slice ac 0 cc] 35 (0, 0))) := ⟨(Below.refl _ _).alloc (Nat.le_refl _) _, Go.heap_alloc_new w _⟩
    go_enter Tryz.func25, Tryz.ntmps25
    go_upto_region 33 with (go_at_call 21; refine (between_any _ _ _ _).mono ?_; rintro e w1 ⟨rfl, rfl⟩)
    revert HB0
    generalize w.alloc (.cells #[.int .i64 8, .bool false, .bool false, .bool false, .bool false, .int .i64 0, .int .i64 i, .int .i64 0, .int .i64 0, .string ⟨#[]⟩, .string ⟨#[]⟩, .string ⟨#[]⟩, .slice aa sa.length ca, .slice ac 0 cc] 35) = W0
    intro HB0
    have x1 := fun o => Lib.cell_of_heap HB0.out.2 o
    go_wp2_with fail
    refine (HC.out _).mono ?_
    rintro e w1 ⟨rfl, hb⟩
    have HB0 : Hid (Below w.heap.size w w1 ∧ w1.heap[w.heap.size]? = _) := ⟨below_step HB0.out.1 hb, (hb.block _ (Array.getElem?_eq_some_iff.1 HB0.out.2).1).trans HB0.out.2⟩
    clear hb x1
    have x1 := fun o => Lib.cell_of_heap HB0.out.2 o
    clear HC
    go_wp2_with (go_at_call 21; refine (between_no _ _ _ _ (by omega)).mono ?_; rintro e w1 ⟨rfl, rfl⟩)
    go_ret
    exact ⟨rfl, HB0.out.1⟩
  · rw [idE, if_neg hi, if_neg (by decide)]
    by_cases h0 : sa.length = 0
    · rw [countE, if_pos h0, if_pos (by decide)]
      have h0e : sa = [] := List.length_eq_zero_iff.1 h0
      subst h0e
      clear h0
      have HB0 : Hid (Below w.heap.size w (w.alloc (.cells #[.int .i64 8, .bool false, .bool false, .bool false, .bool false, .int .i64 0, .int .i64 i, .int .i64 0, .int .i64 0, .string ⟨#[]⟩, .string ⟨#[]⟩, .string ⟨#[]⟩, .slice aa 0 ca, .slice ac 0 cc] 35)) ∧ (w.alloc (.cells #[.int .i64 8, .bool false, .bool false, .bool false, .bool false, .int .i64 0, .int .i64 i, .int .i64 0, .int .i64 0, .string ⟨#[]⟩, .string ⟨#[]⟩, .string ⟨#[]⟩, .slice aa 0 ca, .slice ac 0 cc] 35)).heap[w.heap.size]? = some (.cells #[.int .i64 8, .bool false, .bool false, .bool false, .bool false, .int .i64 0, .int .i64 i, .int .i64 0, .int .i64 0, .string ⟨#[]⟩, .string ⟨#[]⟩, .string ⟨#[]⟩, .slice aa 0 ca, .slice ac 0 cc] 35 (0, 0))) := ⟨(Below.refl _ _).alloc (Nat.le_refl _) _, Go.heap_alloc_new w _⟩
      go_enter Tryz.func25, Tryz.ntmps25
      go_upto_region 33 with (go_at_call 21; refine (between_any _ _ _ _).mono ?_; rintro e w1 ⟨rfl, rfl⟩)
      revert HB0
      generalize w.alloc (.cells #[.int .i64 8, .bool false, .bool false, .bool false, .bool false, .int .i64 0, .int .i64 i, .int .i64 0, .int .i64 0, .string ⟨#[]⟩, .string ⟨#[]⟩, .string ⟨#[]⟩, .slice aa 0 ca, .slice ac 0 cc] 35) = W0
      intro HB0
      have x1 := fun o => Lib.cell_of_heap HB0.out.2 o
      go_wp2_with fail
      refine (HC.out _).mono ?_
      rintro e w1 ⟨rfl, hb⟩
      have HB0 : Hid (Below w.heap.size w w1 ∧ w1.heap[w.heap.size]? = _) := ⟨below_step HB0.out.1 hb, (hb.block _ (Array.getElem?_eq_some_iff.1 HB0.out.2).1).trans HB0.out.2⟩
      clear hb x1
      have x1 := fun o => Lib.cell_of_heap HB0.out.2 o
      clear HC
      go_wp2_with (go_at_call 21; refine (between_yes _ _ _ _ (by omega)).mono ?_; rintro e w1 ⟨rfl, rfl⟩)
      go_ret
      exact ⟨rfl, HB0.out.1⟩
    · have h0e : ((sa.length : Int) == 0) = false := by rw [beq_eq_false_iff_ne]; omega
      by_cases h5 : 5 < sa.length
      · rw [countE, if_neg h0, if_pos h5, if_pos (by decide)]
        have h5e : (5 : Int) < sa.length := by omega
        have HB0 : Hid (Below w.heap.size w (w.alloc (.cells #[.int .i64 8, .bool false, .bool false, .bool false, .bool false, .int .i64 0, .int .i64 i, .int .i64 0, .int .i64 0, .string ⟨#[]⟩, .string ⟨#[]⟩, .string ⟨#[]⟩, .slice aa sa.length ca, .slice ac 0 cc] 35)) ∧ (w.alloc (.cells #[.int .i64 8, .bool false, .bool false, .bool false, .bool false, .int .i64 0, .int .i64 i, .int .i64 0, .int .i64 0, .string ⟨#[]⟩, .string ⟨#[]⟩, .string ⟨#[]⟩, .slice aa sa.length ca, .slice ac 0 cc] 35)).heap[w.heap.size]? = some (.cells #[.int .i64 8, .bool false, .bool false, .bool false, .bool false, .int .i64 0, .int .i64 i, .int .i64 0, .int .i64 0, .string ⟨#[]⟩, .string ⟨#[]⟩, .string ⟨#[]⟩, .slice aa sa.length ca, .slice ac 0 cc] 35 (0, 0))) := ⟨(Below.refl _ _).alloc (Nat.le_refl _) _, Go.heap_alloc_new w _⟩
        go_enter Tryz.func25, Tryz.ntmps25
        go_upto_region 33 with (go_at_call 21; refine (between_any _ _ _ _).mono ?_; rintro e w1 ⟨rfl, rfl⟩)
        revert HB0
        generalize w.alloc (.cells #[.int .i64 8, .bool false, .bool false, .bool false, .bool false, .int .i64 0, .int .i64 i, .int .i64 0, .int .i64 0, .string ⟨#[]⟩, .string ⟨#[]⟩, .string ⟨#[]⟩, .slice aa sa.length ca, .slice ac 0 cc] 35) = W0
        intro HB0
        have x1 := fun o => Lib.cell_of_heap HB0.out.2 o
        go_wp2_with fail
        refine (HC.out _).mono ?_
        rintro e w1 ⟨rfl, hb⟩
        have HB0 : Hid (Below w.heap.size w w1 ∧ w1.heap[w.heap.size]? = _) := ⟨below_step HB0.out.1 hb, (hb.block _ (Array.getElem?_eq_some_iff.1 HB0.out.2).1).trans HB0.out.2⟩
        clear hb x1
        have x1 := fun o => Lib.cell_of_heap HB0.out.2 o
        clear HC
        go_wp2_with (go_at_call 21; refine (between_yes _ _ _ _ (by omega)).mono ?_; rintro e w1 ⟨rfl, rfl⟩)
        go_ret
        exact ⟨rfl, HB0.out.1⟩
      · rw [countE, if_neg h0, if_neg h5, if_neg (by decide)]
        have h5e : ¬ (5 : Int) < sa.length := by omega
        obtain ⟨F, hF⟩ : ∃ F, firstE (askE 8) sa = F := ⟨_, rfl⟩
        rw [hF]
        have HF0 : Hid (firstE (askE 8) (sa.drop 0) = F) := by rw [List.drop_zero]; exact hF
        clear hF
        have HB0 : Hid (Below w.heap.size w (w.alloc (.cells #[.int .i64 8, .bool false, .bool false, .bool false, .bool false, .int .i64 0, .int .i64 i, .int .i64 0, .int .i64 0, .string ⟨#[]⟩, .string ⟨#[]⟩, .string ⟨#[]⟩, .slice aa sa.length ca, .slice ac 0 cc] 35)) ∧ (w.alloc (.cells #[.int .i64 8, .bool false, .bool false, .bool false, .bool false, .int .i64 0, .int .i64 i, .int .i64 0, .int .i64 0, .string ⟨#[]⟩, .string ⟨#[]⟩, .string ⟨#[]⟩, .slice aa sa.length ca, .slice ac 0 cc] 35)).heap[w.heap.size]? = some (.cells #[.int .i64 8, .bool false, .bool false, .bool false, .bool false, .int .i64 0, .int .i64 i, .int .i64 0, .int .i64 0, .string ⟨#[]⟩, .string ⟨#[]⟩, .string ⟨#[]⟩, .slice aa sa.length ca, .slice ac 0 cc] 35 (0, 0))) := ⟨(Below.refl _ _).alloc (Nat.le_refl _) _, Go.heap_alloc_new w _⟩
        go_enter Tryz.func25, Tryz.ntmps25
        go_upto_region 33 with (go_at_call 21; refine (between_any _ _ _ _).mono ?_; rintro e w1 ⟨rfl, rfl⟩)
        revert HB0
        generalize w.alloc (.cells #[.int .i64 8, .bool false, .bool false, .bool false, .bool false, .int .i64 0, .int .i64 i, .int .i64 0, .int .i64 0, .string ⟨#[]⟩, .string ⟨#[]⟩, .string ⟨#[]⟩, .slice aa sa.length ca, .slice ac 0 cc] 35) = W0
        intro HB0
        have x1 := fun o => Lib.cell_of_heap HB0.out.2 o
        go_wp2_with fail
        refine (HC.out _).mono ?_
        rintro e w1 ⟨rfl, hb⟩
        have HB0 : Hid (Below w.heap.size w w1 ∧ w1.heap[w.heap.size]? = _) := ⟨below_step HB0.out.1 hb, (hb.block _ (Array.getElem?_eq_some_iff.1 HB0.out.2).1).trans HB0.out.2⟩
        clear hb x1
        have x1 := fun o => Lib.cell_of_heap HB0.out.2 o
        clear HC
        go_wp2_with (go_at_call 21; refine (between_yes _ _ _ _ (by omega)).mono ?_; rintro e w1 ⟨rfl, rfl⟩)
        clear x1
        go_loopw [5] (fun x wr => ∃ j : Nat, j ≤ sa.length ∧ x = .int .i64 j ∧ Hid (Below w.heap.size w wr ∧ wr.heap[w.heap.size]? = some (.cells #[.int .i64 8, .bool false, .bool false, .bool false, .bool false, .int .i64 0, .int .i64 i, .int .i64 0, .int .i64 0, .string ⟨#[]⟩, .string ⟨#[]⟩, .string ⟨#[]⟩, .slice aa sa.length ca, .slice ac 0 cc] 35 (0, 0))) ∧ Hid (firstE (askE 8) (sa.drop j) = F)) (fun x _ => sa.length - (intOf x).toNat)
        case atStart => exact ⟨0, Nat.zero_le _, rfl, HB0, HF0⟩
        case round =>
          obtain ⟨j, hj, rfl, HB0, HF⟩ := hrel
          clear HF0
          have x1 := fun o => Lib.cell_of_heap HB0.out.2 o
          by_cases hlt : j < sa.length
          · have hlt2 : (j : Int) < sa.length := by omega
            obtain ⟨b, o, rfl, y1⟩ : ∃ b o, aa = some ⟨b, o, none⟩ ∧ ∀ V, Below w.heap.size w V → V.cell? ⟨b, o + j * 2, none⟩ = some (.string sa[j].1) ∧ V.cell? ⟨b, o + j * 2 + 1, none⟩ = some (.int .i64 sa[j].2) := by
              rcases HA.out with g | ⟨b, o, g0, gb, g1⟩
              · rw [g] at hlt; exact absurd hlt (by simp)
              · exact ⟨b, o, g0, fun V hV => ⟨(hV.cell (p := ⟨b, _, none⟩) gb).trans (g1 j hlt).1, (hV.cell (p := ⟨b, _, none⟩) gb).trans (g1 j hlt).2⟩⟩
            have Y := hide y1
            have CJ := hide (CA.out _ (List.getElem_mem hlt))
            have hf := HF.out
            rw [first_drop _ sa j hlt] at hf
            clear y1 HA CA HF
            generalize sa[j] = x at *
            obtain ⟨f, y⟩ := x
            simp only at Y CJ hf
            have HE : Hid (askE 8 (f, y) = if chk filtF f ≠ 0 then chk filtF f else if (8 : Int) = 10 ∧ y ≠ 0 then 1 else if ¬ (y = 0 ∨ y = 1) then 3 else 0) := rfl
            generalize chk filtF f = E at *
            generalize askE 8 (f, y) = AE at *
            obtain ⟨y1, y2⟩ := Y.out _ HB0.out.1
            go_wp2_with fail
            refine (CJ.out _).mono ?_
            rintro e w1 ⟨rfl, hb⟩
            have HB0 : Hid (Below w.heap.size w w1 ∧ w1.heap[w.heap.size]? = _) := ⟨below_step HB0.out.1 hb, (hb.block _ (Array.getElem?_eq_some_iff.1 HB0.out.2).1).trans HB0.out.2⟩
            clear hb x1 y1 y2
            have x1 := fun o => Lib.cell_of_heap HB0.out.2 o
            obtain ⟨y1, y2⟩ := Y.out _ HB0.out.1
            by_cases hE : E = 0
            · subst hE
              by_cases hy : y = 0 ∨ y = 1
              · have ea : AE = 0 := by rw [HE.out, if_neg (by decide), if_neg (by omega), if_neg (fun h => h hy)]
                rw [if_neg (by rw [ea]; decide)] at hf
                have HF1 := hide hf
                clear hf ea HE
                go_wp2_with (go_at_call 21; refine (between_yes _ _ _ _ (by omega)).mono ?_; rintro e w1 ⟨rfl, rfl⟩)
                go_round
                case rel => exact ⟨j + 1, by omega, by go_num, HB0, HF1⟩
                case measure => simp [intOf]; omega
              · have ea : AE = 3 := by rw [HE.out, if_neg (by decide), if_neg (by omega), if_pos hy]
                rw [ea, if_pos (by decide)] at hf
                subst hf
                clear ea HE
                go_wp2_with (go_at_call 21; refine (between_no _ _ _ _ (by omega)).mono ?_; rintro e w1 ⟨rfl, rfl⟩)
                go_ret
                exact ⟨rfl, HB0.out.1⟩
            · have ea : AE = E := by rw [HE.out, if_pos hE]
              rw [ea, if_pos hE] at hf
              subst hf
              clear ea HE
              have hEe : (E != 0) = true := by simp [hE]
              go_wp2
              go_ret
              exact ⟨rfl, HB0.out.1⟩
          · have hge : (sa.length : Int) ≤ j := by omega
            have hf := HF.out
            rw [List.drop_of_length_le (by omega)] at hf
            have hf0 : F = 0 := hf.symm
            subst hf0
            clear hf HF
            go_wp2
            go_loopw [7] (fun x wr => x = .int .i64 0 ∧ Hid (Below w.heap.size w wr ∧ wr.heap[w.heap.size]? = some (.cells #[.int .i64 8, .bool false, .bool false, .bool false, .bool false, .int .i64 0, .int .i64 i, .int .i64 0, .int .i64 0, .string ⟨#[]⟩, .string ⟨#[]⟩, .string ⟨#[]⟩, .slice aa sa.length ca, .slice ac 0 cc] 35 (0, 0)))) (fun _ _ => 0)
            case atStart => exact ⟨rfl, HB0⟩
            case round =>
              obtain ⟨rfl, HB0⟩ := hrel
              have x3 := fun o => Lib.cell_of_heap HB0.out.2 o
              go_wp2
              go_ret
              exact ⟨rfl, HB0.out.1⟩
set_option maxHeartbeats 16000000 in
set_option maxRecDepth 100000 in
theorem rckP_k10 (i : Int) (sa : List (ByteArray × Int)) (aa ac : Option Addr) (ca cc : Nat) (w : World) (hA : AsksIn w aa sa) (ha : ∀ a ∈ sa, a.1.size ≤ 1048576) :
    Calls Tryz.prog 25 #[.agg #[.int .i64 10, .bool false, .bool false, .bool false, .bool false, .int .i64 0, .int .i64 i, .int .i64 0, .int .i64 0, .string ⟨#[]⟩, .string ⟨#[]⟩, .string ⟨#[]⟩, .slice aa sa.length ca, .slice ac 0 cc]] w fun e w' => e = .returned (.int .i64 (if idE i ≠ 0 then idE i else if countE sa.length ≠ 0 then countE sa.length else firstE (askE 10) sa)) ∧ Below w.heap.size w w' := by
  have HC := hide (fun W => hasId_any 10 0 false false false false i 0 0 ⟨#[]⟩ ⟨#[]⟩ ⟨#[]⟩ aa ac sa.length 0 ca cc W)
  rw [show hasB 10 0 = true by decide] at HC
  have HA := hide hA
  have CA : Hid (∀ a ∈ sa, ∀ W, Calls Tryz.prog 50 #[.string a.1, .bool true] W fun e w' => e = .returned (.int .i64 (chk filtF a.1)) ∧ Below W.heap.size W w') := fun a h W => checkTopic_any a.1 true W (ha a h)
  clear hA ha
  by_cases hi : i < 1 ∨ 65535 < i
  · rw [idE, if_pos hi, if_pos (by decide)]
    have HB0 : Hid (Below w.heap.size w (w.alloc (.cells #[.int .i64 10, .bool false, .bool false, .bool false, .bool false, .int .i64 0, .int .i64 i, .int .i64 0, .int .i64 0, .string ⟨#[]⟩, .string ⟨#[]⟩, .string ⟨#[]⟩, .slice aa sa.length ca, .slice ac 0 cc] 35)) ∧ (w.alloc (.cells #[.int .i64 10, .bool false, .bool false, .bool false, .bool false, .int .i64 0, .int .i64 i, .int .i64 0, .int .i64 0, .string ⟨#[]⟩, .string ⟨#[]⟩, .string ⟨#[]⟩, .slice aa sa.length ca, .slice ac 0 cc] 35)).heap[w.heap.size]? = some (.cells #[.int .i64 10, .bool false, .bool false, .bool false, .bool false, .int .i64 0, .int .i64 i, .int .i64 0, .int .i64 0, .string ⟨#[]⟩, .string ⟨#[]⟩, .string ⟨#[]⟩, .slice aa sa.length ca, .slice ac 0 cc] 35 (0, 0))) := ⟨(Below.refl _ _).alloc (Nat.le_refl _) _, Go.heap_alloc_new w _⟩
    go_enter Tryz.func25, Tryz.ntmps25
    go_upto_region 33 with (go_at_call 21; refine (between_any _ _ _ _).mono ?_; rintro e w1 ⟨rfl, rfl⟩)
    revert HB0
    generalize w.alloc (.cells #[.int .i64 10, .bool false, .bool false, .bool false, .bool false, .int .i64 0, .int .i64 i, .int .i64 0, .int .i64 0, .string ⟨#[]⟩, .string ⟨#[]⟩, .string ⟨#[]⟩, .slice aa sa.length ca, .slice ac 0 cc] 35) = W0
    intro HB0
    have x1 := fun o => Lib.cell_of_heap HB0.out.2 o
    go_wp2_with fail
    refine (HC.out _).mono ?_
    rintro e w1 ⟨rfl, hb⟩
    have HB0 : Hid (Below w.heap.size w w1 ∧ w1.heap[w.heap.size]? = _) := ⟨below_step HB0.out.1 hb, (hb.block _ (Array.getElem?_eq_some_iff.1 HB0.out.2).1).trans HB0.out.2⟩
    clear hb x1
    have x1 := fun o => Lib.cell_of_heap HB0.out.2 o
    clear HC
    go_wp2_with (go_at_call 21; refine (between_no _ _ _ _ (by omega)).mono ?_; rintro e w1 ⟨rfl, rfl⟩)
    go_ret
    exact ⟨rfl, HB0.out.1⟩
  · rw [idE, if_neg hi, if_neg (by decide)]
    by_cases h0 : sa.length = 0
    · rw [countE, if_pos h0, if_pos (by decide)]
      have h0e : sa = [] := List.length_eq_zero_iff.1 h0
      subst h0e
      clear h0
      have HB0 : Hid (Below w.heap.size w (w.alloc (.cells #[.int .i64 10, .bool false, .bool false, .bool false, .bool false, .int .i64 0, .int .i64 i, .int .i64 0, .int .i64 0, .string ⟨#[]⟩, .string ⟨#[]⟩, .string ⟨#[]⟩, .slice aa 0 ca, .slice ac 0 cc] 35)) ∧ (w.alloc (.cells #[.int .i64 10, .bool false, .bool false, .bool false, .bool false, .int .i64 0, .int .i64 i, .int .i64 0, .int .i64 0, .string ⟨#[]⟩, .string ⟨#[]⟩, .string ⟨#[]⟩, .slice aa 0 ca, .slice ac 0 cc] 35)).heap[w.heap.size]? = some (.cells #[.int .i64 10, .bool false, .bool false, .bool false, .bool false, .int .i64 0, .int .i64 i, .int .i64 0, .int .i64 0, .string ⟨#[]⟩, .string ⟨#[]⟩, .string ⟨#[]⟩, .slice aa 0 ca, .slice ac 0 cc] 35 (0, 0))) := ⟨(Below.refl _ _).alloc (Nat.le_refl _) _, Go.heap_alloc_new w _⟩
      go_enter Tryz.func25, Tryz.ntmps25
      go_upto_region 33 with (go_at_call 21; refine (between_any _ _ _ _).mono ?_; rintro e w1 ⟨rfl, rfl⟩)
      revert HB0
      generalize w.alloc (.cells #[.int .i64 10, .bool false, .bool false, .bool false, .bool false, .int .i64 0, .int .i64 i, .int .i64 0, .int .i64 0, .string ⟨#[]⟩, .string ⟨#[]⟩, .string ⟨#[]⟩, .slice aa 0 ca, .slice ac 0 cc] 35) = W0
      intro HB0
      have x1 := fun o => Lib.cell_of_heap HB0.out.2 o
      go_wp2_with fail
      refine (HC.out _).mono ?_
      rintro e w1 ⟨rfl, hb⟩
      have HB0 : Hid (Below w.heap.size w w1 ∧ w1.heap[w.heap.size]? = _) := ⟨below_step HB0.out.1 hb, (hb.block _ (Array.getElem?_eq_some_iff.1 HB0.out.2).1).trans HB0.out.2⟩
      clear hb x1
      have x1 := fun o => Lib.cell_of_heap HB0.out.2 o
      clear HC
      go_wp2_with (go_at_call 21; refine (between_yes _ _ _ _ (by omega)).mono ?_; rintro e w1 ⟨rfl, rfl⟩)
      go_ret
      exact ⟨rfl, HB0.out.1⟩
    · have h0e : ((sa.length : Int) == 0) = false := by rw [beq_eq_false_iff_ne]; omega
      by_cases h5 : 5 < sa.length
      · rw [countE, if_neg h0, if_pos h5, if_pos (by decide)]
        have h5e : (5 : Int) < sa.length := by omega
        have HB0 : Hid (Below w.heap.size w (w.alloc (.cells #[.int .i64 10, .bool false, .bool false, .bool false, .bool false, .int .i64 0, .int .i64 i, .int .i64 0, .int .i64 0, .string ⟨#[]⟩, .string ⟨#[]⟩, .string ⟨#[]⟩, .slice aa sa.length ca, .slice ac 0 cc] 35)) ∧ (w.alloc (.cells #[.int .i64 10, .bool false, .bool false, .bool false, .bool false, .int .i64 0, .int .i64 i, .int .i64 0, .int .i64 0, .string ⟨#[]⟩, .string ⟨#[]⟩, .string ⟨#[]⟩, .slice aa sa.length ca, .slice ac 0 cc] 35)).heap[w.heap.size]? = some (.cells #[.int .i64 10, .bool false, .bool false, .bool false, .bool false, .int .i64 0, .int .i64 i, .int .i64 0, .int .i64 0, .string ⟨#[]⟩, .string ⟨#[]⟩, .string ⟨#[]⟩, .slice aa sa.length ca, .slice ac 0 cc] 35 (0, 0))) := ⟨(Below.refl _ _).alloc (Nat.le_refl _) _, Go.heap_alloc_new w _⟩
        go_enter Tryz.func25, Tryz.ntmps25
        go_upto_region 33 with (go_at_call 21; refine (between_any _ _ _ _).mono ?_; rintro e w1 ⟨rfl, rfl⟩)
        revert HB0
        generalize w.alloc (.cells #[.int .i64 10, .bool false, .bool false, .bool false, .bool false, .int .i64 0, .int .i64 i, .int .i64 0, .int .i64 0, .string ⟨#[]⟩, .string ⟨#[]⟩, .string ⟨#[]⟩, .slice aa sa.length ca, .slice ac 0 cc] 35) = W0
        intro HB0
        have x1 := fun o => Lib.cell_of_heap HB0.out.2 o
        go_wp2_with fail
        refine (HC.out _).mono ?_
        rintro e w1 ⟨rfl, hb⟩
        have HB0 : Hid (Below w.heap.size w w1 ∧ w1.heap[w.heap.size]? = _) := ⟨below_step HB0.out.1 hb, (hb.block _ (Array.getElem?_eq_some_iff.1 HB0.out.2).1).trans HB0.out.2⟩
        clear hb x1
        have x1 := fun o => Lib.cell_of_heap HB0.out.2 o
        clear HC
        go_wp2_with (go_at_call 21; refine (between_yes _ _ _ _ (by omega)).mono ?_; rintro e w1 ⟨rfl, rfl⟩)
        go_ret
        exact ⟨rfl, HB0.out.1⟩
      · rw [countE, if_neg h0, if_neg h5, if_neg (by decide)]
        have h5e : ¬ (5 : Int) < sa.length := by omega
        obtain ⟨F, hF⟩ : ∃ F, firstE (askE 10) sa = F := ⟨_, rfl⟩
        rw [hF]
        have HF0 : Hid (firstE (askE 10) (sa.drop 0) = F) := by rw [List.drop_zero]; exact hF
        clear hF
        have HB0 : Hid (Below w.heap.size w (w.alloc (.cells #[.int .i64 10, .bool false, .bool false, .bool false, .bool false, .int .i64 0, .int .i64 i, .int .i64 0, .int .i64 0, .string ⟨#[]⟩, .string ⟨#[]⟩, .string ⟨#[]⟩, .slice aa sa.length ca, .slice ac 0 cc] 35)) ∧ (w.alloc (.cells #[.int .i64 10, .bool false, .bool false, .bool false, .bool false, .int .i64 0, .int .i64 i, .int .i64 0, .int .i64 0, .string ⟨#[]⟩, .string ⟨#[]⟩, .string ⟨#[]⟩, .slice aa sa.length ca, .slice ac 0 cc] 35)).heap[w.heap.size]? = some (.cells #[.int .i64 10, .bool false, .bool false, .bool false, .bool false, .int .i64 0, .int .i64 i, .int .i64 0, .int .i64 0, .string ⟨#[]⟩, .string ⟨#[]⟩, .string ⟨#[]⟩, .slice aa sa.length ca, .slice ac 0 cc] 35 (0, 0))) := ⟨(Below.refl _ _).alloc (Nat.le_refl _) _, Go.heap_alloc_new w _⟩
        go_enter Tryz.func25, Tryz.ntmps25
        go_upto_region 33 with (go_at_call 21; refine (between_any _ _ _ _).mono ?_; rintro e w1 ⟨rfl, rfl⟩)
        revert HB0
        generalize w.alloc (.cells #[.int .i64 10, .bool false, .bool false, .bool false, .bool false, .int .i64 0, .int .i64 i, .int .i64 0, .int .i64 0, .string ⟨#[]⟩, .string ⟨#[]⟩, .string ⟨#[]⟩, .slice aa sa.length ca, .slice ac 0 cc] 35) = W0
        intro HB0
        have x1 := fun o => Lib.cell_of_heap HB0.out.2 o
        go_wp2_with fail
        refine (HC.out _).mono ?_
        rintro e w1 ⟨rfl, hb⟩
        have HB0 : Hid (Below w.heap.size w w1 ∧ w1.heap[w.heap.size]? = _) := ⟨below_step HB0.out.1 hb, (hb.block _ (Array.getElem?_eq_some_iff.1 HB0.out.2).1).trans HB0.out.2⟩
        clear hb x1
        have x1 := fun o => Lib.cell_of_heap HB0.out.2 o
        clear HC
        go_wp2_with (go_at_call 21; refine (between_yes _ _ _ _ (by omega)).mono ?_; rintro e w1 ⟨rfl, rfl⟩)
        clear x1
        go_loopw [5] (fun x wr => ∃ j : Nat, j ≤ sa.length ∧ x = .int .i64 j ∧ Hid (Below w.heap.size w wr ∧ wr.heap[w.heap.size]? = some (.cells #[.int .i64 10, .bool false, .bool false, .bool false, .bool false, .int .i64 0, .int .i64 i, .int .i64 0, .int .i64 0, .string ⟨#[]⟩, .string ⟨#[]⟩, .string ⟨#[]⟩, .slice aa sa.length ca, .slice ac 0 cc] 35 (0, 0))) ∧ Hid (firstE (askE 10) (sa.drop j) = F)) (fun x _ => sa.length - (intOf x).toNat)
        case atStart => exact ⟨0, Nat.zero_le _, rfl, HB0, HF0⟩
        case round =>
          obtain ⟨j, hj, rfl, HB0, HF⟩ := hrel
          clear HF0
          have x1 := fun o => Lib.cell_of_heap HB0.out.2 o
          by_cases hlt : j < sa.length
          · have hlt2 : (j : Int) < sa.length := by omega
            obtain ⟨b, o, rfl, y1⟩ : ∃ b o, aa = some ⟨b, o, none⟩ ∧ ∀ V, Below w.heap.size w V → V.cell? ⟨b, o + j * 2, none⟩ = some (.string sa[j].1) ∧ V.cell? ⟨b, o + j * 2 + 1, none⟩ = some (.int .i64 sa[j].2) := by
              rcases HA.out with g | ⟨b, o, g0, gb, g1⟩
              · rw [g] at hlt; exact absurd hlt (by simp)
              · exact ⟨b, o, g0, fun V hV => ⟨(hV.cell (p := ⟨b, _, none⟩) gb).trans (g1 j hlt).1, (hV.cell (p := ⟨b, _, none⟩) gb).trans (g1 j hlt).2⟩⟩
            have Y := hide y1
            have CJ := hide (CA.out _ (List.getElem_mem hlt))
            have hf := HF.out
            rw [first_drop _ sa j hlt] at hf
            clear y1 HA CA HF
            generalize sa[j] = x at *
            obtain ⟨f, y⟩ := x
            simp only at Y CJ hf
            have HE : Hid (askE 10 (f, y) = if chk filtF f ≠ 0 then chk filtF f else if (10 : Int) = 10 ∧ y ≠ 0 then 1 else if ¬ (y = 0 ∨ y = 1) then 3 else 0) := rfl
            generalize chk filtF f = E at *
            generalize askE 10 (f, y) = AE at *
            obtain ⟨y1, y2⟩ := Y.out _ HB0.out.1
            go_wp2_with fail
            refine (CJ.out _).mono ?_
            rintro e w1 ⟨rfl, hb⟩
            have HB0 : Hid (Below w.heap.size w w1 ∧ w1.heap[w.heap.size]? = _) := ⟨below_step HB0.out.1 hb, (hb.block _ (Array.getElem?_eq_some_iff.1 HB0.out.2).1).trans HB0.out.2⟩
            clear hb x1 y1 y2
            have x1 := fun o => Lib.cell_of_heap HB0.out.2 o
            obtain ⟨y1, y2⟩ := Y.out _ HB0.out.1
            by_cases hE : E = 0
            · subst hE
              by_cases hy : y = 0
              · subst hy
                have ea : AE = 0 := by rw [HE.out]; decide
                rw [if_neg (by rw [ea]; decide)] at hf
                have HF1 := hide hf
                clear hf ea HE
                go_wp2_with (go_at_call 21; refine (between_any _ _ _ _).mono ?_; rintro e w1 ⟨rfl, rfl⟩)
                go_round
                case rel => exact ⟨j + 1, by omega, by go_num, HB0, HF1⟩
                case measure => simp [intOf]; omega
              · have ea : AE = 1 := by rw [HE.out, if_neg (by decide), if_pos (by simp [hy])]
                rw [ea, if_pos (by decide)] at hf
                subst hf
                clear ea HE
                have hye : (y != 0) = true := by simp [hy]
                go_wp2
                go_ret
                exact ⟨rfl, HB0.out.1⟩
            · have ea : AE = E := by rw [HE.out, if_pos hE]
              rw [ea, if_pos hE] at hf
              subst hf
              clear ea HE
              have hEe : (E != 0) = true := by simp [hE]
              go_wp2
              go_ret
              exact ⟨rfl, HB0.out.1⟩
          · have hge : (sa.length : Int) ≤ j := by omega
            have hf := HF.out
            rw [List.drop_of_length_le (by omega)] at hf
            have hf0 : F = 0 := hf.symm
            subst hf0
            clear hf HF
            go_wp2
            go_loopw [7] (fun x wr => x = .int .i64 0 ∧ Hid (Below w.heap.size w wr ∧ wr.heap[w.heap.size]? = some (.cells #[.int .i64 10, .bool false, .bool false, .bool false, .bool false, .int .i64 0, .int .i64 i, .int .i64 0, .int .i64 0, .string ⟨#[]⟩, .string ⟨#[]⟩, .string ⟨#[]⟩, .slice aa sa.length ca, .slice ac 0 cc] 35 (0, 0)))) (fun _ _ => 0)
            case atStart => exact ⟨rfl, HB0⟩
            case round =>
              obtain ⟨rfl, HB0⟩ := hrel
              have x3 := fun o => Lib.cell_of_heap HB0.out.2 o
              go_wp2
              go_ret
              exact ⟨rfl, HB0.out.1⟩
end Go.Proofs.YtnjdpibgfbbkcabGreatDoor
/-
  The reference's CheckPacket of a packet that has nothing that its kind does not name: kind 9.
-/
namespace Go.Proofs.YtnjdpibgfbbkcabGreatDoor
open Go.RowKit Go.PlainAid

set_option maxHeartbeats 16000000 in
set_option maxRecDepth 100000 in
theorem rckP_k9 (i : Int) (cs : List Int) (aa ac : Option Addr) (ca cc : Nat) (w : World) (hA : IntsIn w ac cs) :
    Calls Tryz.prog 25 #[.agg #[.int .i64 9, .bool false, .bool false, .bool false, .bool false, .int .i64 0, .int .i64 i, .int .i64 0, .int .i64 0, .string ⟨#[]⟩, .string ⟨#[]⟩, .string ⟨#[]⟩, .slice aa 0 ca, .slice ac cs.length cc]] w fun e w' => e = .returned (.int .i64 (if idE i ≠ 0 then idE i else if countE cs.length ≠ 0 then countE cs.length else firstE codeE cs)) ∧ Below w.heap.size w w' := by
  have HC := hide (fun W => hasId_any 9 0 false false false false i 0 0 ⟨#[]⟩ ⟨#[]⟩ ⟨#[]⟩ aa ac 0 cs.length ca cc W)
  rw [show hasB 9 0 = true by decide] at HC
  have HA := hide hA
  clear hA
  by_cases hi : i < 1 ∨ 65535 < i
  · rw [idE, if_pos hi, if_pos (by decide)]
    have HB0 : Hid (Below w.heap.size w (w.alloc (.cells #[.int .i64 9, .bool false, .bool false, .bool false, .bool false, .int .i64 0, .int .i64 i, .int .i64 0, .int .i64 0, .string ⟨#[]⟩, .string ⟨#[]⟩, .string ⟨#[]⟩, .slice aa 0 ca, .slice ac cs.length cc] 35)) ∧ (w.alloc (.cells #[.int .i64 9, .bool false, .bool false, .bool false, .bool false, .int .i64 0, .int .i64 i, .int .i64 0, .int .i64 0, .string ⟨#[]⟩, .string ⟨#[]⟩, .string ⟨#[]⟩, .slice aa 0 ca, .slice ac cs.length cc] 35)).heap[w.heap.size]? = some (.cells #[.int .i64 9, .bool false, .bool false, .bool false, .bool false, .int .i64 0, .int .i64 i, .int .i64 0, .int .i64 0, .string ⟨#[]⟩, .string ⟨#[]⟩, .string ⟨#[]⟩, .slice aa 0 ca, .slice ac cs.length cc] 35 (0, 0))) := ⟨(Below.refl _ _).alloc (Nat.le_refl _) _, Go.heap_alloc_new w _⟩
    go_enter Tryz.func25, Tryz.ntmps25
    go_upto_region 33 with (go_at_call 21; refine (between_any _ _ _ _).mono ?_; rintro e w1 ⟨rfl, rfl⟩)
    revert HB0
    generalize w.alloc (.cells #[.int .i64 9, .bool false, .bool false, .bool false, .bool false, .int .i64 0, .int .i64 i, .int .i64 0, .int .i64 0, .string ⟨#[]⟩, .string ⟨#[]⟩, .string ⟨#[]⟩, .slice aa 0 ca, .slice ac cs.length cc] 35) = W0
    intro HB0
    have x1 := fun o => Lib.cell_of_heap HB0.out.2 o
    go_wp2_with fail
    refine (HC.out _).mono ?_
    rintro e w1 ⟨rfl, hb⟩
    have HB0 : Hid (Below w.heap.size w w1 ∧ w1.heap[w.heap.size]? = _) := ⟨below_step HB0.out.1 hb, (hb.block _ (Array.getElem?_eq_some_iff.1 HB0.out.2).1).trans HB0.out.2⟩
    clear hb x1
    have x1 := fun o => Lib.cell_of_heap HB0.out.2 o
    clear HC
    go_wp2_with (go_at_call 21; refine (between_no _ _ _ _ (by omega)).mono ?_; rintro e w1 ⟨rfl, rfl⟩)
    go_ret
    exact ⟨rfl, HB0.out.1⟩
  · rw [idE, if_neg hi, if_neg (by decide)]
    by_cases h0 : cs.length = 0
    · rw [countE, if_pos h0, if_pos (by decide)]
      have h0e : cs = [] := List.length_eq_zero_iff.1 h0
      subst h0e
      clear h0
      have HB0 : Hid (Below w.heap.size w (w.alloc (.cells #[.int .i64 9, .bool false, .bool false, .bool false, .bool false, .int .i64 0, .int .i64 i, .int .i64 0, .int .i64 0, .string ⟨#[]⟩, .string ⟨#[]⟩, .string ⟨#[]⟩, .slice aa 0 ca, .slice ac 0 cc] 35)) ∧ (w.alloc (.cells #[.int .i64 9, .bool false, .bool false, .bool false, .bool false, .int .i64 0, .int .i64 i, .int .i64 0, .int .i64 0, .string ⟨#[]⟩, .string ⟨#[]⟩, .string ⟨#[]⟩, .slice aa 0 ca, .slice ac 0 cc] 35)).heap[w.heap.size]? = some (.cells #[.int .i64 9, .bool false, .bool false, .bool false, .bool false, .int .i64 0, .int .i64 i, .int .i64 0, .int .i64 0, .string ⟨#[]⟩, .string ⟨#[]⟩, .string ⟨#[]⟩, .slice aa 0 ca, .slice ac 0 cc] 35 (0, 0))) := ⟨(Below.refl _ _).alloc (Nat.le_refl _) _, Go.heap_alloc_new w _⟩
      go_enter Tryz.func25, Tryz.ntmps25
      go_upto_region 33 with (go_at_call 21; refine (between_any _ _ _ _).mono ?_; rintro e w1 ⟨rfl, rfl⟩)
      revert HB0
      generalize w.alloc (.cells #[.int .i64 9, .bool false, .bool false, .bool false, .bool false, .int .i64 0, .int .i64 i, .int .i64 0, .int .i64 0, .string ⟨#[]⟩, .string ⟨#[]⟩, .string ⟨#[]⟩, .slice aa 0 ca, .slice ac 0 cc] 35) = W0
      intro HB0
      have x1 := fun o => Lib.cell_of_heap HB0.out.2 o
      go_wp2_with fail
      refine (HC.out _).mono ?_
      rintro e w1 ⟨rfl, hb⟩
      have HB0 : Hid (Below w.heap.size w w1 ∧ w1.heap[w.heap.size]? = _) := ⟨below_step HB0.out.1 hb, (hb.block _ (Array.getElem?_eq_some_iff.1 HB0.out.2).1).trans HB0.out.2⟩
      clear hb x1
      have x1 := fun o => Lib.cell_of_heap HB0.out.2 o
      clear HC
      go_wp2_with (go_at_call 21; refine (between_yes _ _ _ _ (by omega)).mono ?_; rintro e w1 ⟨rfl, rfl⟩)
      clear x1
      go_loopw [5] (fun x wr => x = .int .i64 0 ∧ Hid (Below w.heap.size w wr ∧ wr.heap[w.heap.size]? = some (.cells #[.int .i64 9, .bool false, .bool false, .bool false, .bool false, .int .i64 0, .int .i64 i, .int .i64 0, .int .i64 0, .string ⟨#[]⟩, .string ⟨#[]⟩, .string ⟨#[]⟩, .slice aa 0 ca, .slice ac 0 cc] 35 (0, 0)))) (fun _ _ => 0)
      case atStart => exact ⟨rfl, HB0⟩
      case round =>
        obtain ⟨rfl, HB0⟩ := hrel
        have x1 := fun o => Lib.cell_of_heap HB0.out.2 o
        go_wp2
        go_ret
        exact ⟨rfl, HB0.out.1⟩
    · have h0e : ((cs.length : Int) == 0) = false := by rw [beq_eq_false_iff_ne]; omega
      by_cases h5 : 5 < cs.length
      · rw [countE, if_neg h0, if_pos h5, if_pos (by decide)]
        have h5e : (5 : Int) < cs.length := by omega
        have HB0 : Hid (Below w.heap.size w (w.alloc (.cells #[.int .i64 9, .bool false, .bool false, .bool false, .bool false, .int .i64 0, .int .i64 i, .int .i64 0, .int .i64 0, .string ⟨#[]⟩, .string ⟨#[]⟩, .string ⟨#[]⟩, .slice aa 0 ca, .slice ac cs.length cc] 35)) ∧ (w.alloc (.cells #[.int .i64 9, .bool false, .bool false, .bool false, .bool false, .int .i64 0, .int .i64 i, .int .i64 0, .int .i64 0, .string ⟨#[]⟩, .string ⟨#[]⟩, .string ⟨#[]⟩, .slice aa 0 ca, .slice ac cs.length cc] 35)).heap[w.heap.size]? = some (.cells #[.int .i64 9, .bool false, .bool false, .bool false, .bool false, .int .i64 0, .int .i64 i, .int .i64 0, .int .i64 0, .string ⟨#[]⟩, .string ⟨#[]⟩, .string ⟨#[]⟩, .slice aa 0 ca, .slice ac cs.length cc] 35 (0, 0))) := ⟨(Below.refl _ _).alloc (Nat.le_refl _) _, Go.heap_alloc_new w _⟩
        go_enter Tryz.func25, Tryz.ntmps25
        go_upto_region 33 with (go_at_call 21; refine (between_any _ _ _ _).mono ?_; rintro e w1 ⟨rfl, rfl⟩)
        revert HB0
        generalize w.alloc (.cells #[.int .i64 9, .bool false, .bool false, .bool false, .bool false, .int .i64 0, .int .i64 i, .int .i64 0, .int .i64 0, .string ⟨#[]⟩, .string ⟨#[]⟩, .string ⟨#[]⟩, .slice aa 0 ca, .slice ac cs.length cc] 35) = W0
        intro HB0
        have x1 := fun o => Lib.cell_of_heap HB0.out.2 o
        go_wp2_with fail
        refine (HC.out _).mono ?_
        rintro e w1 ⟨rfl, hb⟩
        have HB0 : Hid (Below w.heap.size w w1 ∧ w1.heap[w.heap.size]? = _) := ⟨below_step HB0.out.1 hb, (hb.block _ (Array.getElem?_eq_some_iff.1 HB0.out.2).1).trans HB0.out.2⟩
        clear hb x1
        have x1 := fun o => Lib.cell_of_heap HB0.out.2 o
        clear HC
        go_wp2_with (go_at_call 21; refine (between_yes _ _ _ _ (by omega)).mono ?_; rintro e w1 ⟨rfl, rfl⟩)
        clear x1
        go_loopw [5] (fun x wr => x = .int .i64 0 ∧ Hid (Below w.heap.size w wr ∧ wr.heap[w.heap.size]? = some (.cells #[.int .i64 9, .bool false, .bool false, .bool false, .bool false, .int .i64 0, .int .i64 i, .int .i64 0, .int .i64 0, .string ⟨#[]⟩, .string ⟨#[]⟩, .string ⟨#[]⟩, .slice aa 0 ca, .slice ac cs.length cc] 35 (0, 0)))) (fun _ _ => 0)
        case atStart => exact ⟨rfl, HB0⟩
        case round =>
          obtain ⟨rfl, HB0⟩ := hrel
          have x1 := fun o => Lib.cell_of_heap HB0.out.2 o
          go_wp2
          go_ret
          exact ⟨rfl, HB0.out.1⟩
      · rw [countE, if_neg h0, if_neg h5, if_neg (by decide)]
        have h5e : ¬ (5 : Int) < cs.length := by omega
        obtain ⟨F, hF⟩ : ∃ F, firstE codeE cs = F := ⟨_, rfl⟩
        rw [hF]
        have HF0 : Hid (firstE codeE (cs.drop 0) = F) := by rw [List.drop_zero]; exact hF
        clear hF
        have HB0 : Hid (Below w.heap.size w (w.alloc (.cells #[.int .i64 9, .bool false, .bool false, .bool false, .bool false, .int .i64 0, .int .i64 i, .int .i64 0, .int .i64 0, .string ⟨#[]⟩, .string ⟨#[]⟩, .string ⟨#[]⟩, .slice aa 0 ca, .slice ac cs.length cc] 35)) ∧ (w.alloc (.cells #[.int .i64 9, .bool false, .bool false, .bool false, .bool false, .int .i64 0, .int .i64 i, .int .i64 0, .int .i64 0, .string ⟨#[]⟩, .string ⟨#[]⟩, .string ⟨#[]⟩, .slice aa 0 ca, .slice ac cs.length cc] 35)).heap[w.heap.size]? = some (.cells #[.int .i64 9, .bool false, .bool false, .bool false, .bool false, .int .i64 0, .int .i64 i, .int .i64 0, .int .i64 0, .string ⟨#[]⟩, .string ⟨#[]⟩, .string ⟨#[]⟩, .slice aa 0 ca, .slice ac cs.length cc] 35 (0, 0))) := ⟨(Below.refl _ _).alloc (Nat.le_refl _) _, Go.heap_alloc_new w _⟩
        go_enter Tryz.func25, Tryz.ntmps25
        go_upto_region 33 with (go_at_call 21; refine (between_any _ _ _ _).mono ?_; rintro e w1 ⟨rfl, rfl⟩)
        revert HB0
        generalize w.alloc (.cells #[.int .i64 9, .bool false, .bool false, .bool false, .bool false, .int .i64 0, .int .i64 i, .int .i64 0, .int .i64 0, .string ⟨#[]⟩, .string ⟨#[]⟩, .string ⟨#[]⟩, .slice aa 0 ca, .slice ac cs.length cc] 35) = W0
        intro HB0
        have x1 := fun o => Lib.cell_of_heap HB0.out.2 o
        go_wp2_with fail
        refine (HC.out _).mono ?_
        rintro e w1 ⟨rfl, hb⟩
        have HB0 : Hid (Below w.heap.size w w1 ∧ w1.heap[w.heap.size]? = _) := ⟨below_step HB0.out.1 hb, (hb.block _ (Array.getElem?_eq_some_iff.1 HB0.out.2).1).trans HB0.out.2⟩
        clear hb x1
        have x1 := fun o => Lib.cell_of_heap HB0.out.2 o
        clear HC
        go_wp2_with (go_at_call 21; refine (between_yes _ _ _ _ (by omega)).mono ?_; rintro e w1 ⟨rfl, rfl⟩)
        clear x1
        go_loopw [5] (fun x wr => x = .int .i64 0 ∧ Hid (Below w.heap.size w wr ∧ wr.heap[w.heap.size]? = some (.cells #[.int .i64 9, .bool false, .bool false, .bool false, .bool false, .int .i64 0, .int .i64 i, .int .i64 0, .int .i64 0, .string ⟨#[]⟩, .string ⟨#[]⟩, .string ⟨#[]⟩, .slice aa 0 ca, .slice ac cs.length cc] 35 (0, 0)))) (fun _ _ => 0)
        case atStart => exact ⟨rfl, HB0⟩
        case round =>
          obtain ⟨rfl, HB0⟩ := hrel
          have x1 := fun o => Lib.cell_of_heap HB0.out.2 o
          go_wp2
          clear x1
          go_loopw [7] (fun x wr => ∃ j : Nat, j ≤ cs.length ∧ x = .int .i64 j ∧ Hid (Below w.heap.size w wr ∧ wr.heap[w.heap.size]? = some (.cells #[.int .i64 9, .bool false, .bool false, .bool false, .bool false, .int .i64 0, .int .i64 i, .int .i64 0, .int .i64 0, .string ⟨#[]⟩, .string ⟨#[]⟩, .string ⟨#[]⟩, .slice aa 0 ca, .slice ac cs.length cc] 35 (0, 0))) ∧ Hid (firstE codeE (cs.drop j) = F)) (fun x _ => cs.length - (intOf x).toNat)
          case atStart => exact ⟨0, Nat.zero_le _, rfl, HB0, HF0⟩
          case round =>
            obtain ⟨j, hj, rfl, HB0, HF⟩ := hrel
            clear HF0
            have x1 := fun o => Lib.cell_of_heap HB0.out.2 o
            by_cases hlt : j < cs.length
            · have hlt2 : (j : Int) < cs.length := by omega
              obtain ⟨b, o, rfl, y1⟩ : ∃ b o, ac = some ⟨b, o, none⟩ ∧ ∀ V, Below w.heap.size w V → V.cell? ⟨b, o + j, none⟩ = some (.int .i64 cs[j]) := by
                rcases HA.out with g | ⟨b, o, g0, gb, g1⟩
                · rw [g] at hlt; exact absurd hlt (by simp)
                · exact ⟨b, o, g0, fun V hV => (hV.cell (p := ⟨b, _, none⟩) gb).trans (g1 j hlt)⟩
              have y1 := y1 _ HB0.out.1
              have hf := HF.out
              rw [first_drop _ cs j hlt] at hf
              clear HA HF
              generalize cs[j] = y at *
              have HE : Hid (codeE y = if y = 0 ∨ y = 1 ∨ y = 128 then 0 else 3) := rfl
              generalize codeE y = AE at *
              by_cases hy : y = 0 ∨ y = 1 ∨ y = 128
              · have ea : AE = 0 := by rw [HE.out, if_pos hy]
                rw [if_neg (by rw [ea]; decide)] at hf
                have HF1 := hide hf
                clear hf ea HE
                rcases hy with hy | hy | hy
                all_goals
                  subst hy
                  go_wp2
                  go_round
                  case rel => exact ⟨j + 1, by omega, by go_num, HB0, HF1⟩
                  case measure => simp [intOf]; omega
              · have ea : AE = 3 := by rw [HE.out, if_neg hy]
                rw [ea, if_pos (by decide)] at hf
                subst hf
                clear ea HE
                have n0 : (y != 0) = true := by simp; omega
                have n1 : (y != 1) = true := by simp; omega
                have n2 : (y != 128) = true := by simp; omega
                clear hy
                go_wp2
                go_ret
                exact ⟨rfl, HB0.out.1⟩
            · have hge : (cs.length : Int) ≤ j := by omega
              have hf := HF.out
              rw [List.drop_of_length_le (by omega)] at hf
              have hf0 : F = 0 := hf.symm
              subst hf0
              clear hf HF
              go_wp2
              go_ret
              exact ⟨rfl, HB0.out.1⟩
end Go.Proofs.YtnjdpibgfbbkcabGreatDoor
