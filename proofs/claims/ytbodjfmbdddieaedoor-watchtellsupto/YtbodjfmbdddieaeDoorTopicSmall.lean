/-
  topic.isPlain, the two function literals of Name and Filter, levels: what they answer.
-/
import Derived.Test.YtbodjfmbdddieaeDoorTopicMath
import Derived.Test.YtbodjfmbdddieaeDoorShelf
import Derived.Test.YtbodjfmbdddieaeDoorRows
import Derived.WalkKit
import Derived.ProofKit
import Derived.WalkSpells
import Derived.WalkLawsBesides
import Derived.Handy
namespace Go.Proofs.YtbodjfmbdddieaeDoor
open Go.RowKit Go.PlainAid

set_option maxHeartbeats 1000000 in
theorem isPlain_any (s : ByteArray) (w : World) (hs : s.size ≤ maxLen) :
    Calls Tryd.prog 98 #[.string s] w fun e w' => e = .returned (.bool (plain s)) ∧ w' = w := by
  unfold maxLen at hs
  have hbt := get_bt s
  go_enter Tryd.func98, Tryd.ntmps98
  go_wp2
  go_loop [3] (fun i => ∃ k : Nat, k ≤ s.size ∧ i = .int .i64 k ∧ Hid (plainTo s k = true)) (fun i => s.size - (intOf i).toNat)
  case atStart => exact ⟨0, Nat.zero_le _, rfl, rfl⟩
  case round =>
    obtain ⟨k, hk, rfl, HP⟩ := hrel
    have hb0 := bt_nonneg s k
    have hb1 := bt_le s k
    by_cases hlt : k < s.size
    · by_cases h1 : bt s k < 33
      · have HR := hide (plain_no hlt (show plainC (bt s k) = false by simp [plainC]; omega))
        go_wp2
        go_ret
        exact ⟨by rw [HR.out]; rfl, rfl⟩
      · have h1' : decide (bt s k < 33) = false := by simp; omega
        by_cases h2 : 126 < bt s k
        · have HR := hide (plain_no hlt (show plainC (bt s k) = false by simp [plainC]; omega))
          go_wp2
          go_ret
          exact ⟨by rw [HR.out]; rfl, rfl⟩
        · have h2' : decide (126 < bt s k) = false := by simp; omega
          by_cases h3 : bt s k = 43
          · have HR := hide (plain_no hlt (show plainC (bt s k) = false by simp [plainC, h3]))
            have h3' : (bt s k == 43) = true := by simp [h3]
            clear h3
            go_wp2
            go_ret
            exact ⟨by rw [HR.out]; rfl, rfl⟩
          · have h3' : (bt s k == 43) = false := by simp [h3]
            by_cases h4 : bt s k = 35
            · have HR := hide (plain_no hlt (show plainC (bt s k) = false by simp [plainC, h4]))
              have h4' : (bt s k == 35) = true := by simp [h4]
              clear h3 h4
              go_wp2
              go_ret
              exact ⟨by rw [HR.out]; rfl, rfl⟩
            · have h4' : (bt s k == 35) = false := by simp [h4]
              have HR := plain_more HP.out (show plainC (bt s k) = true by simp [plainC, h3, h4]; omega)
              have HR := hide HR
              clear h3 h4
              go_wp2
              go_round
              case rel => exact ⟨k + 1, by omega, by go_num, HR⟩
              case measure => simp [intOf]; omega
    · have HE : Hid (plain s = true) := by have e : k = s.size := by omega
                                           subst e; exact HP
      go_wp2
      go_ret
      exact ⟨by rw [HE.out]; rfl, rfl⟩

theorem nameLit_any (l : ByteArray) (b : Bool) (w : World) (hs : l.size ≤ maxLen) :
    Calls Tryd.prog 97 #[.string l, .bool b] w fun e w' => e = .returned (.bool (nameF l b)) ∧ w' = w := by
  go_enter Tryd.func97, Tryd.ntmps97
  go_wp2_with (go_at_call 98; refine (isPlain_any _ _ hs).mono ?_; rintro e w1 ⟨rfl, rfl⟩)
  go_ret
  exact ⟨rfl, rfl⟩

theorem filterLit_any (l : ByteArray) (b : Bool) (w : World) (hs : l.size ≤ maxLen) :
    Calls Tryd.prog 99 #[.string l, .bool b] w fun e w' => e = .returned (.bool (filtF l b)) ∧ w' = w := by
  by_cases h1 : l = ⟨#[43]⟩
  · subst h1
    go_enter Tryd.func99, Tryd.ntmps99
    go_wp2
    go_ret
    exact ⟨rfl, rfl⟩
  · by_cases h2 : l = ⟨#[35]⟩
    · subst h2
      cases b
      · go_enter Tryd.func99, Tryd.ntmps99
        go_wp2_with (go_at_call 98; refine (isPlain_any _ _ hs).mono ?_; rintro e w1 ⟨rfl, rfl⟩)
        go_ret
        exact ⟨rfl, rfl⟩
      · go_enter Tryd.func99, Tryd.ntmps99
        go_wp2
        go_ret
        exact ⟨rfl, rfl⟩
    · have e1 : (l.toList == [43]) = false := txt_no h1
      have e2 : (l.toList == [35]) = false := txt_no h2
      have HR : Hid (filtF l b = plain l) := by simp [Hid, filtF, h1, h2]
      clear h1 h2
      go_enter Tryd.func99, Tryd.ntmps99
      go_wp2_with (go_at_call 98; refine (isPlain_any _ _ hs).mono ?_; rintro e w1 ⟨rfl, rfl⟩)
      go_ret
      exact ⟨by rw [HR.out]; rfl, rfl⟩

theorem levels_any (s : ByteArray) (m : Int) (w : World) (hs : s.size < 4294967281) (hm : w.cell? ⟨0, 0, none⟩ = some (.int .i64 m)) :
    Calls Tryd.prog 50 #[.string s] w fun e w' => e = .returned (.slice (some ⟨w.heap.size, 0, none⟩) (LV s).length (LV s).length) ∧ w' = w.alloc (.cells ((LV s).map Value.string).toArray 9) := by
  have hc := Tryd.strings_Split s ⟨#[47]⟩ m w hs hm (by decide)
  rw [LV_split, LV_length] at hc
  go_enter Tryd.func50, Tryd.ntmps50
  go_wp2_with (go_at_call 100; refine hc.mono ?_; rintro e w1 ⟨rfl, rfl⟩)
  go_ret
  exact ⟨rfl, rfl⟩
end Go.Proofs.YtbodjfmbdddieaeDoor
