/-
  topic.check, Name and Filter: what they answer.
-/
import Derived.Test.YtbodjfmbdddieaeDoorTopicSmall
namespace Go.Proofs.YtbodjfmbdddieaeDoor
open Go.RowKit Go.PlainAid

set_option maxHeartbeats 1000000 in
set_option maxRecDepth 100000 in
theorem check_name (s : ByteArray) (m : Int) (w : World) (hm : w.cell? ⟨0, 0, none⟩ = some (.int .i64 m)) :
    Calls Tryd.prog 96 #[.string s, .func (.func 97) #[] #[]] w fun e w' => e = .returned (.int .i64 (chk nameF s)) ∧ Below w.heap.size w w' := by
  by_cases h0 : s.size = 0
  · have HR := hide (chk_empty nameF h0)
    have hz : (s.toList == []) = true := txt_yes (by apply ByteArray.ext; exact Array.eq_empty_of_size_eq_zero h0)
    clear h0
    go_enter Tryd.func96, Tryd.ntmps96
    go_wp2
    go_ret
    exact ⟨by rw [HR.out]; rfl, Below.refl _ _⟩
  · have hz : (s.toList == []) = false := txt_no (fun e => h0 (by rw [e]; rfl))
    by_cases h1 : 60 < s.size
    · have HR := hide (chk_long nameF h0 h1)
      have h1' : 60 < (s.size : Int) := by omega
      go_enter Tryd.func96, Tryd.ntmps96
      go_wp2
      go_ret
      exact ⟨by rw [HR.out]; rfl, Below.refl _ _⟩
    · have h1' : decide (60 < (s.size : Int)) = false := by simp; omega
      go_enter Tryd.func96, Tryd.ntmps96
      go_wp2_with fail
      refine (levels_any s m _ (by omega) hm).mono ?_
      rintro e w1 ⟨rfl, rfl⟩
      by_cases h2 : 6 < (LV s).length
      · have HR := hide (chk_many nameF h0 h1 h2)
        have h2' : 6 < ((LV s).length : Int) := by omega
        go_wp2
        go_ret
        exact ⟨by rw [HR.out]; rfl, by go_grown⟩
      · have h2' : decide (6 < ((LV s).length : Int)) = false := by simp; omega
        have HC := hide (chk_lv nameF h0 h1 h2)
        have hll : ((LV s).length : Int) ≤ 6 := by omega
        have HSZ := hide (LV_size s (by unfold maxLen; omega))
        generalize LV s = L at *
        clear h2
        go_wp2_with fail
        go_loop [20, 6, 7] (fun i _ _ => ∃ k : Nat, k ≤ L.length ∧ i = .int .i64 k ∧ Hid (okTo nameF L L.length k = true)) (fun i _ _ => L.length - (intOf i).toNat)
        case atStart => exact ⟨0, Nat.zero_le _, rfl, rfl⟩
        case round =>
          obtain ⟨k, hk, rfl, HP⟩ := hrel
          by_cases hlt : k < L.length
          · have hxs := HSZ.out L[k] (List.getElem_mem _)
            have HX := hide (okTo_next (p := nameF) hlt HP.out)
            have hbo : ((k : Int) == (L.length : Int) - 1) = (k + 1 == L.length) := by rw [Bool.eq_iff_iff, beq_iff_eq, beq_iff_eq]; omega
            generalize hx : L[k] = x at *
            go_wp2_with fail
            refine (nameLit_any _ _ _ hxs).mono ?_
            rintro e w' ⟨rfl, rfl⟩
            by_cases hp : nameF x (k + 1 == L.length) = true
            · have HX2 := hide (HX.out.trans hp)
              go_wp2_with fail
              go_round
              case rel => exact ⟨k + 1, by omega, by go_num, HX2⟩
              case measure => simp [intOf]; omega
            · have hp2 : nameF x (k + 1 == L.length) = false := by simpa using hp
              have HX2 := hide (okTo_false (n := L.length) hlt (HX.out.trans hp2))
              clear hp
              go_wp2_with fail
              go_ret
              exact ⟨by rw [HC.out, HX2.out]; rfl, by go_grown⟩
          · have HE := okTo_end (show k = L.length by omega) HP
            go_wp2_with fail
            go_ret
            exact ⟨by rw [HC.out, HE.out]; rfl, by go_grown⟩

set_option maxHeartbeats 1000000 in
set_option maxRecDepth 100000 in
theorem check_filter (s : ByteArray) (m : Int) (w : World) (hm : w.cell? ⟨0, 0, none⟩ = some (.int .i64 m)) :
    Calls Tryd.prog 96 #[.string s, .func (.func 99) #[] #[]] w fun e w' => e = .returned (.int .i64 (chk filtF s)) ∧ Below w.heap.size w w' := by
  by_cases h0 : s.size = 0
  · have HR := hide (chk_empty filtF h0)
    have hz : (s.toList == []) = true := txt_yes (by apply ByteArray.ext; exact Array.eq_empty_of_size_eq_zero h0)
    clear h0
    go_enter Tryd.func96, Tryd.ntmps96
    go_wp2
    go_ret
    exact ⟨by rw [HR.out]; rfl, Below.refl _ _⟩
  · have hz : (s.toList == []) = false := txt_no (fun e => h0 (by rw [e]; rfl))
    by_cases h1 : 60 < s.size
    · have HR := hide (chk_long filtF h0 h1)
      have h1' : 60 < (s.size : Int) := by omega
      go_enter Tryd.func96, Tryd.ntmps96
      go_wp2
      go_ret
      exact ⟨by rw [HR.out]; rfl, Below.refl _ _⟩
    · have h1' : decide (60 < (s.size : Int)) = false := by simp; omega
      go_enter Tryd.func96, Tryd.ntmps96
      go_wp2_with fail
      refine (levels_any s m _ (by omega) hm).mono ?_
      rintro e w1 ⟨rfl, rfl⟩
      by_cases h2 : 6 < (LV s).length
      · have HR := hide (chk_many filtF h0 h1 h2)
        have h2' : 6 < ((LV s).length : Int) := by omega
        go_wp2
        go_ret
        exact ⟨by rw [HR.out]; rfl, by go_grown⟩
      · have h2' : decide (6 < ((LV s).length : Int)) = false := by simp; omega
        have HC := hide (chk_lv filtF h0 h1 h2)
        have hll : ((LV s).length : Int) ≤ 6 := by omega
        have HSZ := hide (LV_size s (by unfold maxLen; omega))
        generalize LV s = L at *
        clear h2
        go_wp2_with fail
        go_loop [20, 6, 7] (fun i _ _ => ∃ k : Nat, k ≤ L.length ∧ i = .int .i64 k ∧ Hid (okTo filtF L L.length k = true)) (fun i _ _ => L.length - (intOf i).toNat)
        case atStart => exact ⟨0, Nat.zero_le _, rfl, rfl⟩
        case round =>
          obtain ⟨k, hk, rfl, HP⟩ := hrel
          by_cases hlt : k < L.length
          · have hxs := HSZ.out L[k] (List.getElem_mem _)
            have HX := hide (okTo_next (p := filtF) hlt HP.out)
            have hbo : ((k : Int) == (L.length : Int) - 1) = (k + 1 == L.length) := by rw [Bool.eq_iff_iff, beq_iff_eq, beq_iff_eq]; omega
            generalize hx : L[k] = x at *
            go_wp2_with fail
            refine (filterLit_any _ _ _ hxs).mono ?_
            rintro e w' ⟨rfl, rfl⟩
            by_cases hp : filtF x (k + 1 == L.length) = true
            · have HX2 := hide (HX.out.trans hp)
              go_wp2_with fail
              go_round
              case rel => exact ⟨k + 1, by omega, by go_num, HX2⟩
              case measure => simp [intOf]; omega
            · have hp2 : filtF x (k + 1 == L.length) = false := by simpa using hp
              have HX2 := hide (okTo_false (n := L.length) hlt (HX.out.trans hp2))
              clear hp
              go_wp2_with fail
              go_ret
              exact ⟨by rw [HC.out, HX2.out]; rfl, by go_grown⟩
          · have HE := okTo_end (show k = L.length by omega) HP
            go_wp2_with fail
            go_ret
            exact ⟨by rw [HC.out, HE.out]; rfl, by go_grown⟩

theorem name_any (s : ByteArray) (m : Int) (w : World) (hm : w.cell? ⟨0, 0, none⟩ = some (.int .i64 m)) :
    Calls Tryd.prog 44 #[.string s] w fun e w' => e = .returned (.int .i64 (chk nameF s)) ∧ Below w.heap.size w w' := by
  go_enter Tryd.func44, Tryd.ntmps44
  go_wp2_with (go_at_call 96; refine (check_name s m _ hm).mono ?_; rintro e w1 ⟨rfl, hb⟩)
  go_ret
  exact ⟨rfl, hb⟩

theorem filter_any (s : ByteArray) (m : Int) (w : World) (hm : w.cell? ⟨0, 0, none⟩ = some (.int .i64 m)) :
    Calls Tryd.prog 45 #[.string s] w fun e w' => e = .returned (.int .i64 (chk filtF s)) ∧ Below w.heap.size w w' := by
  go_enter Tryd.func45, Tryd.ntmps45
  go_wp2_with (go_at_call 96; refine (check_filter s m _ hm).mono ?_; rintro e w1 ⟨rfl, hb⟩)
  go_ret
  exact ⟨rfl, hb⟩
end Go.Proofs.YtbodjfmbdddieaeDoor
