/-
  wire.GetLong: what it answers, for every text and place.
-/
import Derived.Test.YtgmjdelgocbcaabDoorWireSmall
import Derived.Test.YtgmjdelgocbcaabDoorWireMath
import Derived.PlainAid
namespace Go.Proofs.YtgmjdelgocbcaabDoor
open Go.RowKit Go.PlainAid

set_option maxHeartbeats 1000000 in
set_option maxRecDepth 100000 in
theorem getLong_in (s : ByteArray) (a : Nat) (w : World) (hs : s.size ≤ maxLen) (ha : a ≤ s.size) :
    Calls Tryd.prog 54 #[.string s, .int .i64 a] w fun e w' => e = .returned (.tuple #[.int .i64 (glGo s a 4 0 0).1, .int .i64 (glGo s a 4 0 0).2.1, .int .i64 (glGo s a 4 0 0).2.2]) ∧ w' = w := by
  have hs' := hs
  unfold maxLen at hs
  have hbt := get_bt s
  generalize hR : glGo s a 4 0 0 = R
  have HR : Hid (glGo s a 4 0 0 = R) := hR
  clear hR
  go_enter Tryd.func54, Tryd.ntmps54
  go_wp2_with (go_at_call 71; refine (isPlace_yes _ _ _ (by omega)).mono ?_; rintro e w' ⟨rfl, rfl⟩)
  go_loop [7, 8] (fun n i => ∃ (k : Nat) (m : Int), k ≤ 4 ∧ 0 ≤ m ∧ m ≤ 268435455 ∧ i = .int .i64 k ∧ n = .int .i64 m ∧ a + k ≤ s.size ∧ Hid (m < 128 ^ k ∧ glGo s a (4 - k) k m = R)) (fun _ i => 4 - (intOf i).toNat)
  case atStart => exact ⟨0, 0, by omega, by omega, by omega, rfl, rfl, by omega, by decide, HR⟩
  case round =>
    obtain ⟨k, m, hk, hm0, hm1, rfl, rfl, hak, HG⟩ := hrel
    have h5 : k = 0 ∨ k = 1 ∨ k = 2 ∨ k = 3 ∨ k = 4 := by omega
    rcases h5 with rfl | rfl | rfl | rfl | rfl
    · have hak' : a ≤ s.size := by omega
      by_cases hend : s.size ≤ a
      · have he : ((0 : Int) == (s.size : Int) - (a : Int)) = true := by simp; omega
        have HR1 := hide (gl_short (k := 0) (by omega) hend HG)
        go_wp2
        go_ret3
        exact ⟨by rw [HR1.out]; first | rfl | go_num | simp, rfl⟩
      · have he : ((0 : Int) == (s.size : Int) - (a : Int)) = false := by simp; omega
        have hb0 := bt_nonneg s a
        have hb1 := bt_le s a
        by_cases hbig : 128 ≤ bt s a
        · have hst := gl_more (k := 0) (by omega) hend hbig hm0 HG
          have HS := hst.2.2
          have HB : Hid (0 ≤ m + bt s a % 128 * 128 ^ 0 ∧ m + bt s a % 128 * 128 ^ 0 ≤ 268435455) := ⟨hst.1, hst.2.1⟩
          clear hst
          go_wp2
          go_round
          case rel => exact ⟨0 + 1, m + bt s a % 128 * 128 ^ 0, by omega, HB.out.1, HB.out.2, by go_num, by go_num, by omega, HS⟩
          case measure => simp [intOf]
        · by_cases hz : bt s a = 0
          · have hz1 : (bt s a == 0) = true := by simp [hz]
            have HZ : Hid (bt s a = 0) := hz
            have HR1 := hide (gl_done (k := 0) (by omega) hend hbig (by omega) HG)
            clear hz
            go_wp2
            go_ret3
            exact ⟨by rw [HR1.out]; first | rfl | go_num | simp, rfl⟩
          · have hz1 : (bt s a == 0) = false := by simp [hz]
            have HR1 := hide (gl_done (k := 0) (by omega) hend hbig (by omega) HG)
            have HZ : Hid (¬ bt s a = 0) := hz
            clear hz
            go_wp2
            go_ret3
            exact ⟨by rw [HR1.out]; first | rfl | go_num | simp, rfl⟩
    · have hak' : a + 1 ≤ s.size := by omega
      by_cases hend : s.size ≤ a + 1
      · have he : ((1 : Int) == (s.size : Int) - (a : Int)) = true := by simp; omega
        have HR1 := hide (gl_short (k := 1) (by omega) hend HG)
        go_wp2
        go_ret3
        exact ⟨by rw [HR1.out]; first | rfl | go_num | simp, rfl⟩
      · have he : ((1 : Int) == (s.size : Int) - (a : Int)) = false := by simp; omega
        have hb0 := bt_nonneg s (a + 1)
        have hb1 := bt_le s (a + 1)
        by_cases hbig : 128 ≤ bt s (a + 1)
        · have hst := gl_more (k := 1) (by omega) hend hbig hm0 HG
          have HS := hst.2.2
          have HB : Hid (0 ≤ m + bt s (a + 1) % 128 * 128 ^ 1 ∧ m + bt s (a + 1) % 128 * 128 ^ 1 ≤ 268435455) := ⟨hst.1, hst.2.1⟩
          clear hst
          go_wp2
          go_round
          case rel => exact ⟨1 + 1, m + bt s (a + 1) % 128 * 128 ^ 1, by omega, HB.out.1, HB.out.2, by go_num, by go_num, by omega, HS⟩
          case measure => simp [intOf]
        · by_cases hz : bt s (a + 1) = 0
          · have hz1 : (bt s (a + 1) == 0) = true := by simp [hz]
            have HZ : Hid (bt s (a + 1) = 0) := hz
            have HR1 := hide (gl_form (k := 1) (by omega) hend hbig ⟨hz, by omega⟩ HG)
            clear hz
            go_wp2
            go_ret3
            exact ⟨by rw [HR1.out]; first | rfl | go_num | simp, rfl⟩
          · have hz1 : (bt s (a + 1) == 0) = false := by simp [hz]
            have HR1 := hide (gl_done (k := 1) (by omega) hend hbig (by omega) HG)
            have HZ : Hid (¬ bt s (a + 1) = 0) := hz
            clear hz
            go_wp2
            go_ret3
            exact ⟨by rw [HR1.out]; first | rfl | go_num | simp, rfl⟩
    · have hak' : a + 2 ≤ s.size := by omega
      by_cases hend : s.size ≤ a + 2
      · have he : ((2 : Int) == (s.size : Int) - (a : Int)) = true := by simp; omega
        have HR1 := hide (gl_short (k := 2) (by omega) hend HG)
        go_wp2
        go_ret3
        exact ⟨by rw [HR1.out]; first | rfl | go_num | simp, rfl⟩
      · have he : ((2 : Int) == (s.size : Int) - (a : Int)) = false := by simp; omega
        have hb0 := bt_nonneg s (a + 2)
        have hb1 := bt_le s (a + 2)
        by_cases hbig : 128 ≤ bt s (a + 2)
        · have hst := gl_more (k := 2) (by omega) hend hbig hm0 HG
          have HS := hst.2.2
          have HB : Hid (0 ≤ m + bt s (a + 2) % 128 * 128 ^ 2 ∧ m + bt s (a + 2) % 128 * 128 ^ 2 ≤ 268435455) := ⟨hst.1, hst.2.1⟩
          clear hst
          go_wp2
          go_round
          case rel => exact ⟨2 + 1, m + bt s (a + 2) % 128 * 128 ^ 2, by omega, HB.out.1, HB.out.2, by go_num, by go_num, by omega, HS⟩
          case measure => simp [intOf]
        · by_cases hz : bt s (a + 2) = 0
          · have hz1 : (bt s (a + 2) == 0) = true := by simp [hz]
            have HZ : Hid (bt s (a + 2) = 0) := hz
            have HR1 := hide (gl_form (k := 2) (by omega) hend hbig ⟨hz, by omega⟩ HG)
            clear hz
            go_wp2
            go_ret3
            exact ⟨by rw [HR1.out]; first | rfl | go_num | simp, rfl⟩
          · have hz1 : (bt s (a + 2) == 0) = false := by simp [hz]
            have HR1 := hide (gl_done (k := 2) (by omega) hend hbig (by omega) HG)
            have HZ : Hid (¬ bt s (a + 2) = 0) := hz
            clear hz
            go_wp2
            go_ret3
            exact ⟨by rw [HR1.out]; first | rfl | go_num | simp, rfl⟩
    · have hak' : a + 3 ≤ s.size := by omega
      by_cases hend : s.size ≤ a + 3
      · have he : ((3 : Int) == (s.size : Int) - (a : Int)) = true := by simp; omega
        have HR1 := hide (gl_short (k := 3) (by omega) hend HG)
        go_wp2
        go_ret3
        exact ⟨by rw [HR1.out]; first | rfl | go_num | simp, rfl⟩
      · have he : ((3 : Int) == (s.size : Int) - (a : Int)) = false := by simp; omega
        have hb0 := bt_nonneg s (a + 3)
        have hb1 := bt_le s (a + 3)
        by_cases hbig : 128 ≤ bt s (a + 3)
        · have hst := gl_more (k := 3) (by omega) hend hbig hm0 HG
          have HS := hst.2.2
          have HB : Hid (0 ≤ m + bt s (a + 3) % 128 * 128 ^ 3 ∧ m + bt s (a + 3) % 128 * 128 ^ 3 ≤ 268435455) := ⟨hst.1, hst.2.1⟩
          clear hst
          go_wp2
          go_round
          case rel => exact ⟨3 + 1, m + bt s (a + 3) % 128 * 128 ^ 3, by omega, HB.out.1, HB.out.2, by go_num, by go_num, by omega, HS⟩
          case measure => simp [intOf]
        · by_cases hz : bt s (a + 3) = 0
          · have hz1 : (bt s (a + 3) == 0) = true := by simp [hz]
            have HZ : Hid (bt s (a + 3) = 0) := hz
            have HR1 := hide (gl_form (k := 3) (by omega) hend hbig ⟨hz, by omega⟩ HG)
            clear hz
            go_wp2
            go_ret3
            exact ⟨by rw [HR1.out]; first | rfl | go_num | simp, rfl⟩
          · have hz1 : (bt s (a + 3) == 0) = false := by simp [hz]
            have HR1 := hide (gl_done (k := 3) (by omega) hend hbig (by omega) HG)
            have HZ : Hid (¬ bt s (a + 3) = 0) := hz
            clear hz
            go_wp2
            go_ret3
            exact ⟨by rw [HR1.out]; first | rfl | go_num | simp, rfl⟩
    · have HR1 := hide (gl_four HG)
      go_wp2
      go_ret3
      exact ⟨by rw [HR1.out]; first | rfl | go_num | simp, rfl⟩

theorem getLong_out (s : ByteArray) (a : Int) (w : World) (_hs : s.size ≤ maxLen) (h : ¬ (0 ≤ a ∧ a ≤ s.size)) :
    Calls Tryd.prog 54 #[.string s, .int .i64 a] w fun e w' => e = .returned (.tuple #[.int .i64 0, .int .i64 0, .int .i64 3]) ∧ w' = w := by
  go_enter Tryd.func54, Tryd.ntmps54
  go_wp2_with (go_at_call 71; refine (isPlace_no _ _ _ h).mono ?_; rintro e w' ⟨rfl, rfl⟩)
  go_ret3
  exact ⟨rfl, rfl⟩
end Go.Proofs.YtgmjdelgocbcaabDoor
/-
  dragomanref.GetLongOf: what it answers, for every text and place.
-/
namespace Go.Proofs.YtgmjdelgocbcaabDoor
open Go.RowKit Go.PlainAid

set_option maxHeartbeats 1000000 in
set_option maxRecDepth 100000 in
theorem getLongOf_in (s : ByteArray) (a : Nat) (w : World) (hs : s.size ≤ maxLen) (ha : a ≤ s.size) :
    Calls Tryd.prog 36 #[.string s, .int .i64 a] w fun e w' => e = .returned (.tuple #[.int .i64 (glGo s a 4 0 0).1, .int .i64 (glGo s a 4 0 0).2.1, .int .i64 (glGo s a 4 0 0).2.2]) ∧ w' = w := by
  have hs' := hs
  unfold maxLen at hs
  have hbt := get_bt s
  generalize hR : glGo s a 4 0 0 = R
  have HR : Hid (glGo s a 4 0 0 = R) := hR
  clear hR
  go_enter Tryd.func36, Tryd.ntmps36
  go_wp2_with (go_at_call 28; refine (between_yes _ _ _ _ (by omega)).mono ?_; rintro e w' ⟨rfl, rfl⟩)
  go_loop [7, 8, 9] (fun n t i => ∃ (k : Nat) (m : Int), ((k = 0 ∧ t = .int .i64 1) ∨ (k = 1 ∧ t = .int .i64 128) ∨ (k = 2 ∧ t = .int .i64 16384) ∨ (k = 3 ∧ t = .int .i64 2097152) ∨ (k = 4 ∧ t = .int .i64 268435456)) ∧ 0 ≤ m ∧ m ≤ 268435455 ∧ i = .int .i64 k ∧ n = .int .i64 m ∧ a + k ≤ s.size ∧ Hid (m < 128 ^ k ∧ glGo s a (4 - k) k m = R)) (fun _ _ i => 4 - (intOf i).toNat)
  case atStart => exact ⟨0, 0, .inl ⟨rfl, rfl⟩, by omega, by omega, rfl, rfl, by omega, by decide, HR⟩
  case round =>
    obtain ⟨k, m, hk, hm0, hm1, rfl, rfl, hak, HG⟩ := hrel
    rcases hk with ⟨rfl, rfl⟩ | ⟨rfl, rfl⟩ | ⟨rfl, rfl⟩ | ⟨rfl, rfl⟩ | ⟨rfl, rfl⟩
    · have hak' : a ≤ s.size := by omega
      by_cases hend : s.size ≤ a
      · have he : (s.size : Int) ≤ (a : Int) + 0 := by omega
        have HR1 := hide (gl_short (k := 0) (by omega) hend HG)
        go_wp2
        go_ret3
        exact ⟨by rw [HR1.out]; first | rfl | go_num | simp, rfl⟩
      · have he : ¬ (s.size : Int) ≤ (a : Int) + 0 := by omega
        have hb0 := bt_nonneg s a
        have hb1 := bt_le s a
        by_cases hbig : 128 ≤ bt s a
        · have hst := gl_more (k := 0) (by omega) hend hbig hm0 HG
          have HS := hst.2.2
          have HB : Hid (0 ≤ m + bt s a % 128 * 128 ^ 0 ∧ m + bt s a % 128 * 128 ^ 0 ≤ 268435455) := ⟨hst.1, hst.2.1⟩
          clear hst
          go_wp2
          go_round
          case rel => exact ⟨0 + 1, m + bt s a % 128 * 128 ^ 0, .inr (.inl ⟨rfl, rfl⟩), HB.out.1, HB.out.2, by go_num, by go_num, by omega, HS⟩
          case measure => simp [intOf]
        · by_cases hz : bt s a = 0
          · have hz1 : (bt s a == 0) = true := by simp [hz]
            have HZ : Hid (bt s a = 0) := hz
            have HR1 := hide (gl_done (k := 0) (by omega) hend hbig (by omega) HG)
            clear hz
            go_wp2
            go_ret3
            exact ⟨by rw [HR1.out]; first | rfl | go_num | simp, rfl⟩
          · have hz1 : (bt s a == 0) = false := by simp [hz]
            have HR1 := hide (gl_done (k := 0) (by omega) hend hbig (by omega) HG)
            have HZ : Hid (¬ bt s a = 0) := hz
            clear hz
            go_wp2
            go_ret3
            exact ⟨by rw [HR1.out]; first | rfl | go_num | simp, rfl⟩
    · have hak' : a + 1 ≤ s.size := by omega
      by_cases hend : s.size ≤ a + 1
      · have he : (s.size : Int) ≤ (a : Int) + 1 := by omega
        have HR1 := hide (gl_short (k := 1) (by omega) hend HG)
        go_wp2
        go_ret3
        exact ⟨by rw [HR1.out]; first | rfl | go_num | simp, rfl⟩
      · have he : ¬ (s.size : Int) ≤ (a : Int) + 1 := by omega
        have hb0 := bt_nonneg s (a + 1)
        have hb1 := bt_le s (a + 1)
        by_cases hbig : 128 ≤ bt s (a + 1)
        · have hst := gl_more (k := 1) (by omega) hend hbig hm0 HG
          have HS := hst.2.2
          have HB : Hid (0 ≤ m + bt s (a + 1) % 128 * 128 ^ 1 ∧ m + bt s (a + 1) % 128 * 128 ^ 1 ≤ 268435455) := ⟨hst.1, hst.2.1⟩
          clear hst
          go_wp2
          go_round
          case rel => exact ⟨1 + 1, m + bt s (a + 1) % 128 * 128 ^ 1, .inr (.inr (.inl ⟨rfl, rfl⟩)), HB.out.1, HB.out.2, by go_num, by go_num, by omega, HS⟩
          case measure => simp [intOf]
        · by_cases hz : bt s (a + 1) = 0
          · have hz1 : (bt s (a + 1) == 0) = true := by simp [hz]
            have HZ : Hid (bt s (a + 1) = 0) := hz
            have HR1 := hide (gl_form (k := 1) (by omega) hend hbig ⟨hz, by omega⟩ HG)
            clear hz
            go_wp2
            go_ret3
            exact ⟨by rw [HR1.out]; first | rfl | go_num | simp, rfl⟩
          · have hz1 : (bt s (a + 1) == 0) = false := by simp [hz]
            have HR1 := hide (gl_done (k := 1) (by omega) hend hbig (by omega) HG)
            have HZ : Hid (¬ bt s (a + 1) = 0) := hz
            clear hz
            go_wp2
            go_ret3
            exact ⟨by rw [HR1.out]; first | rfl | go_num | simp, rfl⟩
    · have hak' : a + 2 ≤ s.size := by omega
      by_cases hend : s.size ≤ a + 2
      · have he : (s.size : Int) ≤ (a : Int) + 2 := by omega
        have HR1 := hide (gl_short (k := 2) (by omega) hend HG)
        go_wp2
        go_ret3
        exact ⟨by rw [HR1.out]; first | rfl | go_num | simp, rfl⟩
      · have he : ¬ (s.size : Int) ≤ (a : Int) + 2 := by omega
        have hb0 := bt_nonneg s (a + 2)
        have hb1 := bt_le s (a + 2)
        by_cases hbig : 128 ≤ bt s (a + 2)
        · have hst := gl_more (k := 2) (by omega) hend hbig hm0 HG
          have HS := hst.2.2
          have HB : Hid (0 ≤ m + bt s (a + 2) % 128 * 128 ^ 2 ∧ m + bt s (a + 2) % 128 * 128 ^ 2 ≤ 268435455) := ⟨hst.1, hst.2.1⟩
          clear hst
          go_wp2
          go_round
          case rel => exact ⟨2 + 1, m + bt s (a + 2) % 128 * 128 ^ 2, .inr (.inr (.inr (.inl ⟨rfl, rfl⟩))), HB.out.1, HB.out.2, by go_num, by go_num, by omega, HS⟩
          case measure => simp [intOf]
        · by_cases hz : bt s (a + 2) = 0
          · have hz1 : (bt s (a + 2) == 0) = true := by simp [hz]
            have HZ : Hid (bt s (a + 2) = 0) := hz
            have HR1 := hide (gl_form (k := 2) (by omega) hend hbig ⟨hz, by omega⟩ HG)
            clear hz
            go_wp2
            go_ret3
            exact ⟨by rw [HR1.out]; first | rfl | go_num | simp, rfl⟩
          · have hz1 : (bt s (a + 2) == 0) = false := by simp [hz]
            have HR1 := hide (gl_done (k := 2) (by omega) hend hbig (by omega) HG)
            have HZ : Hid (¬ bt s (a + 2) = 0) := hz
            clear hz
            go_wp2
            go_ret3
            exact ⟨by rw [HR1.out]; first | rfl | go_num | simp, rfl⟩
    · have hak' : a + 3 ≤ s.size := by omega
      by_cases hend : s.size ≤ a + 3
      · have he : (s.size : Int) ≤ (a : Int) + 3 := by omega
        have HR1 := hide (gl_short (k := 3) (by omega) hend HG)
        go_wp2
        go_ret3
        exact ⟨by rw [HR1.out]; first | rfl | go_num | simp, rfl⟩
      · have he : ¬ (s.size : Int) ≤ (a : Int) + 3 := by omega
        have hb0 := bt_nonneg s (a + 3)
        have hb1 := bt_le s (a + 3)
        by_cases hbig : 128 ≤ bt s (a + 3)
        · have hst := gl_more (k := 3) (by omega) hend hbig hm0 HG
          have HS := hst.2.2
          have HB : Hid (0 ≤ m + bt s (a + 3) % 128 * 128 ^ 3 ∧ m + bt s (a + 3) % 128 * 128 ^ 3 ≤ 268435455) := ⟨hst.1, hst.2.1⟩
          clear hst
          go_wp2
          go_round
          case rel => exact ⟨3 + 1, m + bt s (a + 3) % 128 * 128 ^ 3, .inr (.inr (.inr (.inr ⟨rfl, rfl⟩))), HB.out.1, HB.out.2, by go_num, by go_num, by omega, HS⟩
          case measure => simp [intOf]
        · by_cases hz : bt s (a + 3) = 0
          · have hz1 : (bt s (a + 3) == 0) = true := by simp [hz]
            have HZ : Hid (bt s (a + 3) = 0) := hz
            have HR1 := hide (gl_form (k := 3) (by omega) hend hbig ⟨hz, by omega⟩ HG)
            clear hz
            go_wp2
            go_ret3
            exact ⟨by rw [HR1.out]; first | rfl | go_num | simp, rfl⟩
          · have hz1 : (bt s (a + 3) == 0) = false := by simp [hz]
            have HR1 := hide (gl_done (k := 3) (by omega) hend hbig (by omega) HG)
            have HZ : Hid (¬ bt s (a + 3) = 0) := hz
            clear hz
            go_wp2
            go_ret3
            exact ⟨by rw [HR1.out]; first | rfl | go_num | simp, rfl⟩
    · have HR1 := hide (gl_four HG)
      go_wp2
      go_ret3
      exact ⟨by rw [HR1.out]; first | rfl | go_num | simp, rfl⟩

theorem getLongOf_out (s : ByteArray) (a : Int) (w : World) (_hs : s.size ≤ maxLen) (h : ¬ (0 ≤ a ∧ a ≤ s.size)) :
    Calls Tryd.prog 36 #[.string s, .int .i64 a] w fun e w' => e = .returned (.tuple #[.int .i64 0, .int .i64 0, .int .i64 3]) ∧ w' = w := by
  go_enter Tryd.func36, Tryd.ntmps36
  go_wp2_with (go_at_call 28; refine (between_no _ _ _ _ h).mono ?_; rintro e w' ⟨rfl, rfl⟩)
  go_ret3
  exact ⟨rfl, rfl⟩
end Go.Proofs.YtgmjdelgocbcaabDoor
