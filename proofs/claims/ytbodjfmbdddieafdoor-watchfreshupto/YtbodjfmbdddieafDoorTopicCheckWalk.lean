/-
  dragomanref.IsPlain and CheckTopic: the walks.
-/
import Derived.Test.YtbodjfmbdddieafDoorTopicCheckRef
namespace Go.Proofs.YtbodjfmbdddieafDoor
open Go.RowKit Go.PlainAid

set_option maxHeartbeats 1000000 in
theorem refPlain_any (s : ByteArray) (w : World) (hs : s.size ≤ maxLen) :
    Calls Tryd.prog 18 #[.string s] w fun e w' => e = .returned (.bool (rngTo s s.size)) ∧ w' = w := by
  unfold maxLen at hs
  have hbt := get_bt s
  go_enter Tryd.func18, Tryd.ntmps18
  go_wp2
  go_loop [3] (fun i => ∃ k : Nat, k ≤ s.size ∧ i = .int .i64 k ∧ Hid (rngTo s k = true)) (fun i => s.size - (intOf i).toNat)
  case atStart => exact ⟨0, Nat.zero_le _, rfl, rfl⟩
  case round =>
    obtain ⟨k, hk, rfl, HP⟩ := hrel
    have hb0 := bt_nonneg s k
    have hb1 := bt_le s k
    by_cases hlt : k < s.size
    · by_cases h1 : 33 ≤ bt s k ∧ bt s k ≤ 126
      · have HR := hide (rng_more HP.out h1)
        go_wp2_with (go_at_call 16; refine (between_yes _ _ _ _ h1).mono ?_; rintro e w1 ⟨rfl, rfl⟩)
        go_round
        case rel => exact ⟨k + 1, by omega, by go_num, HR⟩
        case measure => simp [intOf]; omega
      · have HR := hide (rng_no hlt h1)
        go_wp2_with (go_at_call 16; refine (between_no _ _ _ _ h1).mono ?_; rintro e w1 ⟨rfl, rfl⟩)
        go_ret
        exact ⟨by rw [HR.out]; rfl, rfl⟩
    · have HE : Hid (rngTo s s.size = true) := (show k = s.size by omega) ▸ HP
      go_wp2
      go_ret
      exact ⟨by rw [HE.out]; rfl, rfl⟩

theorem wild_step (x : ByteArray) (j : Nat) : wildTo x (j + 1) = (wildTo x j || (bt x j == 43) || (bt x j == 35)) := rfl

set_option maxHeartbeats 4000000 in
set_option maxRecDepth 100000 in
theorem checkTopic_any (s : ByteArray) (b : Bool) (w : World) (hs : s.size ≤ 1048576) :
    Calls Tryd.prog 7 #[.string s, .bool b] w fun e w' => e = .returned (.int .i64 (chk (lvF b) s)) ∧ Below w.heap.size w w' := by
  go_enter Tryd.func7, Tryd.ntmps7
  go_wp2_with fail
  refine (levelsOf_any s _ hs).mono ?_
  rintro e w1 ⟨g, cap, rfl, hcap, hcells, hbw⟩
  by_cases h0 : s.size = 0
  · have HR := hide (chk_empty (lvF b) h0)
    have hz : (s.toList == []) = true := txt_yes (by apply ByteArray.ext; exact Array.eq_empty_of_size_eq_zero h0)
    clear h0 hcells
    go_wp2
    go_ret
    exact ⟨by rw [HR.out]; rfl, hbw⟩
  · have hz : (s.toList == []) = false := txt_no (fun e => h0 (by rw [e]; rfl))
    by_cases h1 : 60 < s.size
    · have HR := hide (chk_long (lvF b) h0 h1)
      have h1' : 60 < (s.size : Int) := by omega
      clear hcells
      go_wp2
      go_ret
      exact ⟨by rw [HR.out]; rfl, hbw⟩
    · have h1' : decide (60 < (s.size : Int)) = false := by simp; omega
      by_cases h2 : 6 < (LV s).length
      · have HR := hide (chk_many (lvF b) h0 h1 h2)
        have h2' : 6 < ((LV s).length : Int) := by omega
        clear hcells
        go_wp2
        go_ret
        exact ⟨by rw [HR.out]; rfl, hbw⟩
      · have h2' : decide (6 < ((LV s).length : Int)) = false := by simp; omega
        have HC := hide (chk_ref b h0 h1 h2)
        have hll : ((LV s).length : Int) ≤ 6 := by omega
        have HSZ := hide (fun x hx => Nat.le_trans (lvS_size s x hx) (show s.size ≤ 60 by omega))
        have HCE := hide hcells
        clear hcells
        generalize LV s = L at *
        clear h2
        go_wp2_with fail
        refine (refPlain_any s _ (by unfold maxLen; omega)).mono ?_
        rintro e w' ⟨rfl, rfl⟩
        by_cases hr : rngTo s s.size = true
        · have HC2 := hide (HC.out.trans (if_pos hr))
          go_wp2_with fail
          go_loop [6, 7, 8] (fun i _ _ => ∃ k : Nat, k ≤ L.length ∧ i = .int .i64 k ∧ Hid (okTo (lvOkF b) L L.length k = true)) (fun i _ _ => L.length - (intOf i).toNat)
          case atStart => exact ⟨0, Nat.zero_le _, rfl, rfl⟩
          case round =>
            obtain ⟨k, hk, rfl, HP⟩ := hrel
            by_cases hlt : k < L.length
            · have hxs := HSZ.out L[k] (List.getElem_mem _)
              have cf := HCE.out k hlt
              have HX := hide (okTo_next (p := lvOkF b) hlt HP.out)
              generalize L[k] = x at *
              have hxs2 : (x.size : Int) ≤ 60 := by omega
              have hbt := get_bt x
              go_wp2
              go_loop [7, 8] (fun v j => ∃ q : Nat, q ≤ x.size ∧ j = .int .i64 q ∧ v = .bool (wildTo x q)) (fun _ j => x.size - (intOf j).toNat)
              case atStart => exact ⟨0, Nat.zero_le _, rfl, rfl⟩
              case round =>
                obtain ⟨q, hq, rfl, rfl⟩ := hrel
                have hq0 := bt_nonneg x q
                have hq1 := bt_le x q
                by_cases hlq : q < x.size
                · have HW := hide (wild_step x q)
                  cases hw : wildTo x q with
                  | true =>
                    have HN : Hid (wildTo x (q + 1) = true) := by rw [Hid, HW.out, hw]; rfl
                    go_wp2
                    go_round
                    case rel => exact ⟨q + 1, by omega, by go_num, by rw [HN.out]⟩
                    case measure => simp [intOf]; omega
                  | false =>
                    by_cases h3 : bt x q = 43
                    · have h3' : (bt x q == 43) = true := by simp [h3]
                      have HN : Hid (wildTo x (q + 1) = true) := by rw [Hid, HW.out, hw, h3']; rfl
                      clear h3
                      go_wp2
                      go_round
                      case rel => exact ⟨q + 1, by omega, by go_num, by rw [HN.out]⟩
                      case measure => simp [intOf]; omega
                    · have h3' : (bt x q == 43) = false := by simp [h3]
                      have HN : Hid (wildTo x (q + 1) = (bt x q == 35)) := by rw [Hid, HW.out, hw, h3']; rfl
                      clear h3
                      go_wp2
                      go_round
                      case rel => exact ⟨q + 1, by omega, by go_num, by rw [HN.out]⟩
                      case measure => simp [intOf]; omega
                · have HQ : Hid (q = x.size) := by show q = x.size; omega
                  cases hw : wildTo x q with
                  | false =>
                    have HN : Hid (okTo (lvOkF b) L L.length (k + 1) = true) := by rw [Hid, HX.out, lvOkF, ← HQ.out, hw]; rfl
                    go_wp2
                    go_round
                    case rel => exact ⟨k + 1, by omega, by go_num, HN⟩
                    case measure => simp [intOf]; omega
                  | true =>
                    have hwx : wildTo x x.size = true := by rw [← HQ.out]; exact hw
                    have HWX := hide hwx
                    clear hwx
                    cases b with
                    | false =>
                      have HN : Hid (okTo (lvOkF false) L L.length (k + 1) = false) := by rw [Hid, HX.out, lvOkF, HWX.out]; rfl
                      have HN2 := hide (okTo_false (n := L.length) hlt HN.out)
                      go_wp2
                      go_ret
                      exact ⟨by rw [HC2.out, HN2.out]; rfl, hbw⟩
                    | true =>
                      by_cases hp : x = ⟨#[43]⟩
                      · have e4 : (x.toList == [43]) = true := txt_yes hp
                        have e5 : (x.toList != [43]) = false := by simp [bne, e4]
                        have HN : Hid (okTo (lvOkF true) L L.length (k + 1) = true) := by rw [Hid, HX.out]; simp [lvOkF, hp]
                        clear hp
                        go_wp2
                        go_round
                        case rel => exact ⟨k + 1, by omega, by go_num, HN⟩
                        case measure => simp [intOf]; omega
                      · have e4 : (x.toList == [43]) = false := txt_no hp
                        have e5 : (x.toList != [43]) = true := by simp [bne, e4]
                        by_cases hh : x = ⟨#[35]⟩
                        · have e6 : (x.toList == [35]) = true := txt_yes hh
                          have e7 : (x.toList != [35]) = false := by simp [bne, e6]
                          by_cases hl : k + 1 = L.length
                          · have e8 : decide ((k : Int) < (L.length : Int) - 1) = false := by simp; omega
                            have HN : Hid (okTo (lvOkF true) L L.length (k + 1) = true) := by rw [Hid, HX.out]; simp [lvOkF, hh, hl]
                            clear hp hh
                            go_wp2
                            go_round
                            case rel => exact ⟨k + 1, by omega, by go_num, HN⟩
                            case measure => simp [intOf]; omega
                          · have e8 : (k : Int) < (L.length : Int) - 1 := by omega
                            have HN : Hid (okTo (lvOkF true) L L.length (k + 1) = false) := by
                              have hl2 : (k + 1 == L.length) = false := by simpa using hl
                              rw [Hid, HX.out, lvOkF, HWX.out, hl2]; simp [hp]
                            have HN2 := hide (okTo_false (n := L.length) hlt HN.out)
                            clear hp hh
                            go_wp2
                            go_ret
                            exact ⟨by rw [HC2.out, HN2.out]; rfl, hbw⟩
                        · have e6 : (x.toList == [35]) = false := txt_no hh
                          have e7 : (x.toList != [35]) = true := by simp [bne, e6]
                          have HN : Hid (okTo (lvOkF true) L L.length (k + 1) = false) := by
                            rw [Hid, HX.out, lvOkF, HWX.out]; simp [hp, hh]
                          have HN2 := hide (okTo_false (n := L.length) hlt HN.out)
                          clear hp hh
                          go_wp2
                          go_ret
                          exact ⟨by rw [HC2.out, HN2.out]; rfl, hbw⟩
            · have HE := okTo_end (show k = L.length by omega) HP
              go_wp2
              go_ret
              exact ⟨by rw [HC2.out, HE.out]; rfl, hbw⟩
        · have hr2 : rngTo s s.size = false := by simpa using hr
          have HC2 := hide (HC.out.trans (if_neg hr))
          clear hr
          go_wp2
          go_ret
          exact ⟨by rw [HC2.out]; rfl, hbw⟩
end Go.Proofs.YtbodjfmbdddieafDoor
