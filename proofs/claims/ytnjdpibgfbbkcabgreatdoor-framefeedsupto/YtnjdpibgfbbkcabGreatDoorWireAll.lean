/-
  wire.Text, wire.GetText, dragomanref.TextOf and GetTextOf: what they answer.
-/
import Derived.Test.YtnjdpibgfbbkcabGreatDoorWireGets
import Derived.Test.YtnjdpibgfbbkcabGreatDoorWireNumber
import Derived.Test.YtnjdpibgfbbkcabGreatDoorShelf
import Derived.WalkSpells
import Derived.Test.YtnjdpibgfbbkcabGreatDoorWireMath
import Derived.PlainAid
namespace Go.Proofs.YtnjdpibgfbbkcabGreatDoor
open Go.RowKit

/-- a text behind two bytes that tell how many it has -/
def textS (t : ByteArray) : ByteArray := strOfNums [(t.size : Int) / 256 % 256, (t.size : Int) % 256] ++ t

theorem ext_ext (s : ByteArray) (i n : Nat) (h : i + n ≤ s.size) : (s.extract i s.size).extract 0 n = s.extract i (i + n) := by
  rw [ByteArray.extract_extract]; congr 1; omega

theorem text_many (t : ByteArray) (w : World) (h : 65535 < (t.size : Int)) :
    Calls Tryz.prog 86 #[.string t] w fun e w' => e = .returned (.tuple #[.string ⟨#[]⟩, .int .i64 2]) ∧ w' = w := by
  go_enter Tryz.func86, Tryz.ntmps86
  go_wp2
  go_ret2
  exact ⟨rfl, rfl⟩

theorem text_ok (t : ByteArray) (w : World) (h : (t.size : Int) ≤ 65535) :
    Calls Tryz.prog 86 #[.string t] w fun e w' => e = .returned (.tuple #[.string (textS t), .int .i64 0]) ∧ Below w.heap.size w w' := by
  have hsz := strOfNums_size
  go_enter Tryz.func86, Tryz.ntmps86
  go_wp2_with (go_at_call 56; refine (number_2 _ _ (by omega) (by omega)).mono ?_; rintro e w1 ⟨rfl, hb⟩)
  go_ret2
  exact ⟨rfl, hb⟩

theorem textOf_ok (t : ByteArray) (w : World) (h : (t.size : Int) ≤ 65535) :
    Calls Tryz.prog 45 #[.string t] w fun e w' => e = .returned (.string (textS t)) ∧ Below w.heap.size w w' := by
  have hsz := strOfNums_size
  go_enter Tryz.func45, Tryz.ntmps45
  go_wp2_with (go_at_call 46; refine (numberOf_2 _ _ (by omega) (by omega)).mono ?_; rintro e w1 ⟨rfl, hb⟩)
  go_ret
  exact ⟨rfl, hb⟩

theorem clone_any (s : ByteArray) (w : World) (h : s.size ≤ 281474976710656) :
    Calls Tryz.prog 19 #[.string s] w fun e w' => e = .returned (.string s) ∧ Below w.heap.size w w' := by
  go_enter Tryz.func19, Tryz.ntmps19
  go_wp2_with (go_at_call 41; refine (Tryz.stringslite_Clone _ _ h).mono ?_; rintro e w1 ⟨rfl, hb⟩)
  go_ret
  exact ⟨rfl, hb⟩

theorem getText_range (s : ByteArray) (a : Int) (w : World) (hs : s.size ≤ maxLen) (h : ¬ (0 ≤ a ∧ a ≤ s.size)) :
    Calls Tryz.prog 89 #[.string s, .int .i64 a] w fun e w' => e = .returned (.tuple #[.string ⟨#[]⟩, .int .i64 0, .int .i64 3]) ∧ w' = w := by
  go_enter Tryz.func89, Tryz.ntmps89
  go_wp2_with (go_at_call 82; refine (get_range _ _ _ _ hs (by omega) (by omega) h).mono ?_; rintro e w1 ⟨rfl, rfl⟩)
  go_ret3
  exact ⟨rfl, rfl⟩

theorem getText_short (s : ByteArray) (a : Int) (w : World) (hs : s.size ≤ maxLen) (h : 0 ≤ a ∧ a ≤ s.size) (h2 : s.size < a + 2) :
    Calls Tryz.prog 89 #[.string s, .int .i64 a] w fun e w' => e = .returned (.tuple #[.string ⟨#[]⟩, .int .i64 0, .int .i64 8]) ∧ w' = w := by
  go_enter Tryz.func89, Tryz.ntmps89
  go_wp2_with (go_at_call 82; refine (get_short _ _ _ _ hs (by omega) (by omega) h (by omega)).mono ?_; rintro e w1 ⟨rfl, rfl⟩)
  go_ret3
  exact ⟨rfl, rfl⟩

theorem getText_cut (s : ByteArray) (a : Nat) (w : World) (hs : s.size ≤ maxLen) (h : a + 2 ≤ s.size) (h2 : s.size < a + 2 + beN s a 2) :
    Calls Tryz.prog 89 #[.string s, .int .i64 a] w fun e w' => e = .returned (.tuple #[.string ⟨#[]⟩, .int .i64 0, .int .i64 8]) ∧ w' = w := by
  have hs' := hs
  unfold maxLen at hs
  go_enter Tryz.func89, Tryz.ntmps89
  go_wp2_with (go_at_call 82; refine (get_ok s a 2 _ hs' (by omega) (by omega) (by omega)).mono ?_; rintro e w1 ⟨rfl, rfl⟩)
  go_ret3
  exact ⟨rfl, rfl⟩

theorem getText_ok (s : ByteArray) (a : Nat) (w : World) (hs : s.size ≤ maxLen) (h : a + 2 ≤ s.size) (h2 : a + 2 + beN s a 2 ≤ s.size) :
    Calls Tryz.prog 89 #[.string s, .int .i64 a] w fun e w' => e = .returned (.tuple #[.string (s.extract (a + 2) (a + 2 + beN s a 2)), .int .i64 (2 + (beN s a 2 : Int)), .int .i64 0]) ∧ Below w.heap.size w w' := by
  have hs' := hs
  unfold maxLen at hs
  have hn := beN_lt s a 2
  go_enter Tryz.func89, Tryz.ntmps89
  go_wp2_with (go_at_call 82; refine (get_ok s a 2 _ hs' (by omega) (by omega) (by omega)).mono ?_; rintro e w1 ⟨rfl, rfl⟩)
  refine (clone_any _ _ (by simp only [ByteArray.size_extract]; omega)).mono ?_
  rintro e w2 ⟨rfl, hb⟩
  go_wp2
  go_ret3
  exact ⟨by rw [ext_ext s (a + 2) (beN s a 2) h2]; rfl, hb⟩

theorem getTextOf_range (s : ByteArray) (a : Int) (w : World) (h : ¬ (0 ≤ a ∧ a ≤ s.size)) :
    Calls Tryz.prog 43 #[.string s, .int .i64 a] w fun e w' => e = .returned (.tuple #[.string ⟨#[]⟩, .int .i64 0, .int .i64 3]) ∧ w' = w := by
  go_enter Tryz.func43, Tryz.ntmps43
  go_wp2_with (go_at_call 44; refine (getOf_range _ _ _ _ (by omega) (by omega) h).mono ?_; rintro e w1 ⟨rfl, rfl⟩)
  go_ret3
  exact ⟨rfl, rfl⟩

theorem getTextOf_short (s : ByteArray) (a : Int) (w : World) (hs : s.size ≤ maxLen) (h : 0 ≤ a ∧ a ≤ s.size) (h2 : s.size < a + 2) :
    Calls Tryz.prog 43 #[.string s, .int .i64 a] w fun e w' => e = .returned (.tuple #[.string ⟨#[]⟩, .int .i64 0, .int .i64 8]) ∧ w' = w := by
  go_enter Tryz.func43, Tryz.ntmps43
  go_wp2_with (go_at_call 44; refine (getOf_short _ _ _ _ hs (by omega) (by omega) h (by omega)).mono ?_; rintro e w1 ⟨rfl, rfl⟩)
  go_ret3
  exact ⟨rfl, rfl⟩

theorem getTextOf_cut (s : ByteArray) (a : Nat) (w : World) (hs : s.size ≤ maxLen) (h : a + 2 ≤ s.size) (h2 : s.size < a + 2 + beN s a 2) :
    Calls Tryz.prog 43 #[.string s, .int .i64 a] w fun e w' => e = .returned (.tuple #[.string ⟨#[]⟩, .int .i64 0, .int .i64 8]) ∧ w' = w := by
  have hs' := hs
  unfold maxLen at hs
  go_enter Tryz.func43, Tryz.ntmps43
  go_wp2_with (go_at_call 44; refine (getOf_ok s a 2 _ hs' (by omega) (by omega) (by omega)).mono ?_; rintro e w1 ⟨rfl, rfl⟩)
  go_ret3
  exact ⟨rfl, rfl⟩

theorem getTextOf_ok (s : ByteArray) (a : Nat) (w : World) (hs : s.size ≤ maxLen) (h : a + 2 ≤ s.size) (h2 : a + 2 + beN s a 2 ≤ s.size) :
    Calls Tryz.prog 43 #[.string s, .int .i64 a] w fun e w' => e = .returned (.tuple #[.string (s.extract (a + 2) (a + 2 + beN s a 2)), .int .i64 (2 + (beN s a 2 : Int)), .int .i64 0]) ∧ w' = w := by
  have hs' := hs
  unfold maxLen at hs
  have hn := beN_lt s a 2
  go_enter Tryz.func43, Tryz.ntmps43
  go_wp2_with (go_at_call 44; refine (getOf_ok s a 2 _ hs' (by omega) (by omega) (by omega)).mono ?_; rintro e w1 ⟨rfl, rfl⟩)
  go_ret3
  exact ⟨by rw [Int.add_comm 2]; rfl, rfl⟩
end Go.Proofs.YtnjdpibgfbbkcabGreatDoor
/-
  wire.GetLong: what it answers, for every text and place.
-/
namespace Go.Proofs.YtnjdpibgfbbkcabGreatDoor
open Go.RowKit Go.PlainAid

set_option maxHeartbeats 1000000 in
set_option maxRecDepth 100000 in
theorem getLong_in (s : ByteArray) (a : Nat) (w : World) (hs : s.size ≤ maxLen) (ha : a ≤ s.size) :
    Calls Tryz.prog 40 #[.string s, .int .i64 a] w fun e w' => e = .returned (.tuple #[.int .i64 (glGo s a 4 0 0).1, .int .i64 (glGo s a 4 0 0).2.1, .int .i64 (glGo s a 4 0 0).2.2]) ∧ w' = w := by
  have hs' := hs
  unfold maxLen at hs
  have hbt := get_bt s
  generalize hR : glGo s a 4 0 0 = R
  have HR : Hid (glGo s a 4 0 0 = R) := hR
  clear hR
  go_enter Tryz.func40, Tryz.ntmps40
  go_wp2_with (go_at_call 64; refine (isPlace_yes _ _ _ (by omega)).mono ?_; rintro e w' ⟨rfl, rfl⟩)
  go_loop [7, 8] (fun n i => ∃ (k : Nat) (m : Int), k ≤ 4 ∧ 0 ≤ m ∧ m ≤ 268435455 ∧ i = .int .i64 k ∧ n = .int .i64 m ∧ a + k ≤ s.size ∧ Hid (m < 128 ^ k ∧ glGo s a (4 - k) k m = R)) (fun _ i => 4 - (intOf i).toNat)
  case atStart => exact ⟨0, 0, by omega, by omega, by omega, rfl, rfl, by omega, by decide, HR⟩
  case round =>
    obtain ⟨k, m, hk, hm0, hm1, rfl, rfl, hak, HG⟩ := hrel
    have h5 : k = 0 ∨ k = 1 ∨ k = 2 ∨ k = 3 ∨ k = 4 := by omega
    rcases h5 with rfl | rfl | rfl | rfl | rfl
    · have hak' : a ≤ s.size := by omega
      by_cases hend : s.size ≤ a
      · have he : ((0 : Int) == (s.size : Int) - (a : Int)) = true := by simp; omega
        have HR1 := hide (gl_short (k := 0) (by omega) hend HG)
        go_wp2
        go_ret3
        exact ⟨by rw [HR1.out]; first | rfl | go_num | simp, rfl⟩
      · have he : ((0 : Int) == (s.size : Int) - (a : Int)) = false := by simp; omega
        have hb0 := bt_nonneg s a
        have hb1 := bt_le s a
        by_cases hbig : 128 ≤ bt s a
        · have hst := gl_more (k := 0) (by omega) hend hbig hm0 HG
          have HS := hst.2.2
          have HB : Hid (0 ≤ m + bt s a % 128 * 128 ^ 0 ∧ m + bt s a % 128 * 128 ^ 0 ≤ 268435455) := ⟨hst.1, hst.2.1⟩
          clear hst
          go_wp2
          go_round
          case rel => exact ⟨0 + 1, m + bt s a % 128 * 128 ^ 0, by omega, HB.out.1, HB.out.2, by go_num, by go_num, by omega, HS⟩
          case measure => simp [intOf]
        · by_cases hz : bt s a = 0
          · have hz1 : (bt s a == 0) = true := by simp [hz]
            have HZ : Hid (bt s a = 0) := hz
            have HR1 := hide (gl_done (k := 0) (by omega) hend hbig (by omega) HG)
            clear hz
            go_wp2
            go_ret3
            exact ⟨by rw [HR1.out]; first | rfl | go_num | simp, rfl⟩
          · have hz1 : (bt s a == 0) = false := by simp [hz]
            have HR1 := hide (gl_done (k := 0) (by omega) hend hbig (by omega) HG)
            have HZ : Hid (¬ bt s a = 0) := hz
            clear hz
            go_wp2
            go_ret3
            exact ⟨by rw [HR1.out]; first | rfl | go_num | simp, rfl⟩
    · have hak' : a + 1 ≤ s.size := by omega
      by_cases hend : s.size ≤ a + 1
      · have he : ((1 : Int) == (s.size : Int) - (a : Int)) = true := by simp; omega
        have HR1 := hide (gl_short (k := 1) (by omega) hend HG)
        go_wp2
        go_ret3
        exact ⟨by rw [HR1.out]; first | rfl | go_num | simp, rfl⟩
      · have he : ((1 : Int) == (s.size : Int) - (a : Int)) = false := by simp; omega
        have hb0 := bt_nonneg s (a + 1)
        have hb1 := bt_le s (a + 1)
        by_cases hbig : 128 ≤ bt s (a + 1)
        · have hst := gl_more (k := 1) (by omega) hend hbig hm0 HG
          have HS := hst.2.2
          have HB : Hid (0 ≤ m + bt s (a + 1) % 128 * 128 ^ 1 ∧ m + bt s (a + 1) % 128 * 128 ^ 1 ≤ 268435455) := ⟨hst.1, hst.2.1⟩
          clear hst
          go_wp2
          go_round
          case rel => exact ⟨1 + 1, m + bt s (a + 1) % 128 * 128 ^ 1, by omega, HB.out.1, HB.out.2, by go_num, by go_num, by omega, HS⟩
          case measure => simp [intOf]
        · by_cases hz : bt s (a + 1) = 0
          · have hz1 : (bt s (a + 1) == 0) = true := by simp [hz]
            have HZ : Hid (bt s (a + 1) = 0) := hz
            have HR1 := hide (gl_form (k := 1) (by omega) hend hbig ⟨hz, by omega⟩ HG)
            clear hz
            go_wp2
            go_ret3
            exact ⟨by rw [HR1.out]; first | rfl | go_num | simp, rfl⟩
          · have hz1 : (bt s (a + 1) == 0) = false := by simp [hz]
            have HR1 := hide (gl_done (k := 1) (by omega) hend hbig (by omega) HG)
            have HZ : Hid (¬ bt s (a + 1) = 0) := hz
            clear hz
            go_wp2
            go_ret3
            exact ⟨by rw [HR1.out]; first | rfl | go_num | simp, rfl⟩
    · have hak' : a + 2 ≤ s.size := by omega
      by_cases hend : s.size ≤ a + 2
      · have he : ((2 : Int) == (s.size : Int) - (a : Int)) = true := by simp; omega
        have HR1 := hide (gl_short (k := 2) (by omega) hend HG)
        go_wp2
        go_ret3
        exact ⟨by rw [HR1.out]; first | rfl | go_num | simp, rfl⟩
      · have he : ((2 : Int) == (s.size : Int) - (a : Int)) = false := by simp; omega
        have hb0 := bt_nonneg s (a + 2)
        have hb1 := bt_le s (a + 2)
        by_cases hbig : 128 ≤ bt s (a + 2)
        · have hst := gl_more (k := 2) (by omega) hend hbig hm0 HG
          have HS := hst.2.2
          have HB : Hid (0 ≤ m + bt s (a + 2) % 128 * 128 ^ 2 ∧ m + bt s (a + 2) % 128 * 128 ^ 2 ≤ 268435455) := ⟨hst.1, hst.2.1⟩
          clear hst
          go_wp2
          go_round
          case rel => exact ⟨2 + 1, m + bt s (a + 2) % 128 * 128 ^ 2, by omega, HB.out.1, HB.out.2, by go_num, by go_num, by omega, HS⟩
          case measure => simp [intOf]
        · by_cases hz : bt s (a + 2) = 0
          · have hz1 : (bt s (a + 2) == 0) = true := by simp [hz]
            have HZ : Hid (bt s (a + 2) = 0) := hz
            have HR1 := hide (gl_form (k := 2) (by omega) hend hbig ⟨hz, by omega⟩ HG)
            clear hz
            go_wp2
            go_ret3
            exact ⟨by rw [HR1.out]; first | rfl | go_num | simp, rfl⟩
          · have hz1 : (bt s (a + 2) == 0) = false := by simp [hz]
            have HR1 := hide (gl_done (k := 2) (by omega) hend hbig (by omega) HG)
            have HZ : Hid (¬ bt s (a + 2) = 0) := hz
            clear hz
            go_wp2
            go_ret3
            exact ⟨by rw [HR1.out]; first | rfl | go_num | simp, rfl⟩
    · have hak' : a + 3 ≤ s.size := by omega
      by_cases hend : s.size ≤ a + 3
      · have he : ((3 : Int) == (s.size : Int) - (a : Int)) = true := by simp; omega
        have HR1 := hide (gl_short (k := 3) (by omega) hend HG)
        go_wp2
        go_ret3
        exact ⟨by rw [HR1.out]; first | rfl | go_num | simp, rfl⟩
      · have he : ((3 : Int) == (s.size : Int) - (a : Int)) = false := by simp; omega
        have hb0 := bt_nonneg s (a + 3)
        have hb1 := bt_le s (a + 3)
        by_cases hbig : 128 ≤ bt s (a + 3)
        · have hst := gl_more (k := 3) (by omega) hend hbig hm0 HG
          have HS := hst.2.2
          have HB : Hid (0 ≤ m + bt s (a + 3) % 128 * 128 ^ 3 ∧ m + bt s (a + 3) % 128 * 128 ^ 3 ≤ 268435455) := ⟨hst.1, hst.2.1⟩
          clear hst
          go_wp2
          go_round
          case rel => exact ⟨3 + 1, m + bt s (a + 3) % 128 * 128 ^ 3, by omega, HB.out.1, HB.out.2, by go_num, by go_num, by omega, HS⟩
          case measure => simp [intOf]
        · by_cases hz : bt s (a + 3) = 0
          · have hz1 : (bt s (a + 3) == 0) = true := by simp [hz]
            have HZ : Hid (bt s (a + 3) = 0) := hz
            have HR1 := hide (gl_form (k := 3) (by omega) hend hbig ⟨hz, by omega⟩ HG)
            clear hz
            go_wp2
            go_ret3
            exact ⟨by rw [HR1.out]; first | rfl | go_num | simp, rfl⟩
          · have hz1 : (bt s (a + 3) == 0) = false := by simp [hz]
            have HR1 := hide (gl_done (k := 3) (by omega) hend hbig (by omega) HG)
            have HZ : Hid (¬ bt s (a + 3) = 0) := hz
            clear hz
            go_wp2
            go_ret3
            exact ⟨by rw [HR1.out]; first | rfl | go_num | simp, rfl⟩
    · have HR1 := hide (gl_four HG)
      go_wp2
      go_ret3
      exact ⟨by rw [HR1.out]; first | rfl | go_num | simp, rfl⟩

theorem getLong_out (s : ByteArray) (a : Int) (w : World) (_hs : s.size ≤ maxLen) (h : ¬ (0 ≤ a ∧ a ≤ s.size)) :
    Calls Tryz.prog 40 #[.string s, .int .i64 a] w fun e w' => e = .returned (.tuple #[.int .i64 0, .int .i64 0, .int .i64 3]) ∧ w' = w := by
  go_enter Tryz.func40, Tryz.ntmps40
  go_wp2_with (go_at_call 64; refine (isPlace_no _ _ _ h).mono ?_; rintro e w' ⟨rfl, rfl⟩)
  go_ret3
  exact ⟨rfl, rfl⟩
end Go.Proofs.YtnjdpibgfbbkcabGreatDoor
/-
  dragomanref.GetLongOf: what it answers, for every text and place.
-/
namespace Go.Proofs.YtnjdpibgfbbkcabGreatDoor
open Go.RowKit Go.PlainAid

set_option maxHeartbeats 1000000 in
set_option maxRecDepth 100000 in
theorem getLongOf_in (s : ByteArray) (a : Nat) (w : World) (hs : s.size ≤ maxLen) (ha : a ≤ s.size) :
    Calls Tryz.prog 12 #[.string s, .int .i64 a] w fun e w' => e = .returned (.tuple #[.int .i64 (glGo s a 4 0 0).1, .int .i64 (glGo s a 4 0 0).2.1, .int .i64 (glGo s a 4 0 0).2.2]) ∧ w' = w := by
  have hs' := hs
  unfold maxLen at hs
  have hbt := get_bt s
  generalize hR : glGo s a 4 0 0 = R
  have HR : Hid (glGo s a 4 0 0 = R) := hR
  clear hR
  go_enter Tryz.func12, Tryz.ntmps12
  go_wp2_with (go_at_call 21; refine (between_yes _ _ _ _ (by omega)).mono ?_; rintro e w' ⟨rfl, rfl⟩)
  go_loop [7, 8, 9] (fun n t i => ∃ (k : Nat) (m : Int), ((k = 0 ∧ t = .int .i64 1) ∨ (k = 1 ∧ t = .int .i64 128) ∨ (k = 2 ∧ t = .int .i64 16384) ∨ (k = 3 ∧ t = .int .i64 2097152) ∨ (k = 4 ∧ t = .int .i64 268435456)) ∧ 0 ≤ m ∧ m ≤ 268435455 ∧ i = .int .i64 k ∧ n = .int .i64 m ∧ a + k ≤ s.size ∧ Hid (m < 128 ^ k ∧ glGo s a (4 - k) k m = R)) (fun _ _ i => 4 - (intOf i).toNat)
  case atStart => exact ⟨0, 0, .inl ⟨rfl, rfl⟩, by omega, by omega, rfl, rfl, by omega, by decide, HR⟩
  case round =>
    obtain ⟨k, m, hk, hm0, hm1, rfl, rfl, hak, HG⟩ := hrel
    rcases hk with ⟨rfl, rfl⟩ | ⟨rfl, rfl⟩ | ⟨rfl, rfl⟩ | ⟨rfl, rfl⟩ | ⟨rfl, rfl⟩
    · have hak' : a ≤ s.size := by omega
      by_cases hend : s.size ≤ a
      · have he : (s.size : Int) ≤ (a : Int) + 0 := by omega
        have HR1 := hide (gl_short (k := 0) (by omega) hend HG)
        go_wp2
        go_ret3
        exact ⟨by rw [HR1.out]; first | rfl | go_num | simp, rfl⟩
      · have he : ¬ (s.size : Int) ≤ (a : Int) + 0 := by omega
        have hb0 := bt_nonneg s a
        have hb1 := bt_le s a
        by_cases hbig : 128 ≤ bt s a
        · have hst := gl_more (k := 0) (by omega) hend hbig hm0 HG
          have HS := hst.2.2
          have HB : Hid (0 ≤ m + bt s a % 128 * 128 ^ 0 ∧ m + bt s a % 128 * 128 ^ 0 ≤ 268435455) := ⟨hst.1, hst.2.1⟩
          clear hst
          go_wp2
          go_round
          case rel => exact ⟨0 + 1, m + bt s a % 128 * 128 ^ 0, .inr (.inl ⟨rfl, rfl⟩), HB.out.1, HB.out.2, by go_num, by go_num, by omega, HS⟩
          case measure => simp [intOf]
        · by_cases hz : bt s a = 0
          · have hz1 : (bt s a == 0) = true := by simp [hz]
            have HZ : Hid (bt s a = 0) := hz
            have HR1 := hide (gl_done (k := 0) (by omega) hend hbig (by omega) HG)
            clear hz
            go_wp2
            go_ret3
            exact ⟨by rw [HR1.out]; first | rfl | go_num | simp, rfl⟩
          · have hz1 : (bt s a == 0) = false := by simp [hz]
            have HR1 := hide (gl_done (k := 0) (by omega) hend hbig (by omega) HG)
            have HZ : Hid (¬ bt s a = 0) := hz
            clear hz
            go_wp2
            go_ret3
            exact ⟨by rw [HR1.out]; first | rfl | go_num | simp, rfl⟩
    · have hak' : a + 1 ≤ s.size := by omega
      by_cases hend : s.size ≤ a + 1
      · have he : (s.size : Int) ≤ (a : Int) + 1 := by omega
        have HR1 := hide (gl_short (k := 1) (by omega) hend HG)
        go_wp2
        go_ret3
        exact ⟨by rw [HR1.out]; first | rfl | go_num | simp, rfl⟩
      · have he : ¬ (s.size : Int) ≤ (a : Int) + 1 := by omega
        have hb0 := bt_nonneg s (a + 1)
        have hb1 := bt_le s (a + 1)
        by_cases hbig : 128 ≤ bt s (a + 1)
        · have hst := gl_more (k := 1) (by omega) hend hbig hm0 HG
          have HS := hst.2.2
          have HB : Hid (0 ≤ m + bt s (a + 1) % 128 * 128 ^ 1 ∧ m + bt s (a + 1) % 128 * 128 ^ 1 ≤ 268435455) := ⟨hst.1, hst.2.1⟩
          clear hst
          go_wp2
          go_round
          case rel => exact ⟨1 + 1, m + bt s (a + 1) % 128 * 128 ^ 1, .inr (.inr (.inl ⟨rfl, rfl⟩)), HB.out.1, HB.out.2, by go_num, by go_num, by omega, HS⟩
          case measure => simp [intOf]
        · by_cases hz : bt s (a + 1) = 0
          · have hz1 : (bt s (a + 1) == 0) = true := by simp [hz]
            have HZ : Hid (bt s (a + 1) = 0) := hz
            have HR1 := hide (gl_form (k := 1) (by omega) hend hbig ⟨hz, by omega⟩ HG)
            clear hz
            go_wp2
            go_ret3
            exact ⟨by rw [HR1.out]; first | rfl | go_num | simp, rfl⟩
          · have hz1 : (bt s (a + 1) == 0) = false := by simp [hz]
            have HR1 := hide (gl_done (k := 1) (by omega) hend hbig (by omega) HG)
            have HZ : Hid (¬ bt s (a + 1) = 0) := hz
            clear hz
            go_wp2
            go_ret3
            exact ⟨by rw [HR1.out]; first | rfl | go_num | simp, rfl⟩
    · have hak' : a + 2 ≤ s.size := by omega
      by_cases hend : s.size ≤ a + 2
      · have he : (s.size : Int) ≤ (a : Int) + 2 := by omega
        have HR1 := hide (gl_short (k := 2) (by omega) hend HG)
        go_wp2
        go_ret3
        exact ⟨by rw [HR1.out]; first | rfl | go_num | simp, rfl⟩
      · have he : ¬ (s.size : Int) ≤ (a : Int) + 2 := by omega
        have hb0 := bt_nonneg s (a + 2)
        have hb1 := bt_le s (a + 2)
        by_cases hbig : 128 ≤ bt s (a + 2)
        · have hst := gl_more (k := 2) (by omega) hend hbig hm0 HG
          have HS := hst.2.2
          have HB : Hid (0 ≤ m + bt s (a + 2) % 128 * 128 ^ 2 ∧ m + bt s (a + 2) % 128 * 128 ^ 2 ≤ 268435455) := ⟨hst.1, hst.2.1⟩
          clear hst
          go_wp2
          go_round
          case rel => exact ⟨2 + 1, m + bt s (a + 2) % 128 * 128 ^ 2, .inr (.inr (.inr (.inl ⟨rfl, rfl⟩))), HB.out.1, HB.out.2, by go_num, by go_num, by omega, HS⟩
          case measure => simp [intOf]
        · by_cases hz : bt s (a + 2) = 0
          · have hz1 : (bt s (a + 2) == 0) = true := by simp [hz]
            have HZ : Hid (bt s (a + 2) = 0) := hz
            have HR1 := hide (gl_form (k := 2) (by omega) hend hbig ⟨hz, by omega⟩ HG)
            clear hz
            go_wp2
            go_ret3
            exact ⟨by rw [HR1.out]; first | rfl | go_num | simp, rfl⟩
          · have hz1 : (bt s (a + 2) == 0) = false := by simp [hz]
            have HR1 := hide (gl_done (k := 2) (by omega) hend hbig (by omega) HG)
            have HZ : Hid (¬ bt s (a + 2) = 0) := hz
            clear hz
            go_wp2
            go_ret3
            exact ⟨by rw [HR1.out]; first | rfl | go_num | simp, rfl⟩
    · have hak' : a + 3 ≤ s.size := by omega
      by_cases hend : s.size ≤ a + 3
      · have he : (s.size : Int) ≤ (a : Int) + 3 := by omega
        have HR1 := hide (gl_short (k := 3) (by omega) hend HG)
        go_wp2
        go_ret3
        exact ⟨by rw [HR1.out]; first | rfl | go_num | simp, rfl⟩
      · have he : ¬ (s.size : Int) ≤ (a : Int) + 3 := by omega
        have hb0 := bt_nonneg s (a + 3)
        have hb1 := bt_le s (a + 3)
        by_cases hbig : 128 ≤ bt s (a + 3)
        · have hst := gl_more (k := 3) (by omega) hend hbig hm0 HG
          have HS := hst.2.2
          have HB : Hid (0 ≤ m + bt s (a + 3) % 128 * 128 ^ 3 ∧ m + bt s (a + 3) % 128 * 128 ^ 3 ≤ 268435455) := ⟨hst.1, hst.2.1⟩
          clear hst
          go_wp2
          go_round
          case rel => exact ⟨3 + 1, m + bt s (a + 3) % 128 * 128 ^ 3, .inr (.inr (.inr (.inr ⟨rfl, rfl⟩))), HB.out.1, HB.out.2, by go_num, by go_num, by omega, HS⟩
          case measure => simp [intOf]
        · by_cases hz : bt s (a + 3) = 0
          · have hz1 : (bt s (a + 3) == 0) = true := by simp [hz]
            have HZ : Hid (bt s (a + 3) = 0) := hz
            have HR1 := hide (gl_form (k := 3) (by omega) hend hbig ⟨hz, by omega⟩ HG)
            clear hz
            go_wp2
            go_ret3
            exact ⟨by rw [HR1.out]; first | rfl | go_num | simp, rfl⟩
          · have hz1 : (bt s (a + 3) == 0) = false := by simp [hz]
            have HR1 := hide (gl_done (k := 3) (by omega) hend hbig (by omega) HG)
            have HZ : Hid (¬ bt s (a + 3) = 0) := hz
            clear hz
            go_wp2
            go_ret3
            exact ⟨by rw [HR1.out]; first | rfl | go_num | simp, rfl⟩
    · have HR1 := hide (gl_four HG)
      go_wp2
      go_ret3
      exact ⟨by rw [HR1.out]; first | rfl | go_num | simp, rfl⟩

theorem getLongOf_out (s : ByteArray) (a : Int) (w : World) (_hs : s.size ≤ maxLen) (h : ¬ (0 ≤ a ∧ a ≤ s.size)) :
    Calls Tryz.prog 12 #[.string s, .int .i64 a] w fun e w' => e = .returned (.tuple #[.int .i64 0, .int .i64 0, .int .i64 3]) ∧ w' = w := by
  go_enter Tryz.func12, Tryz.ntmps12
  go_wp2_with (go_at_call 21; refine (between_no _ _ _ _ h).mono ?_; rintro e w' ⟨rfl, rfl⟩)
  go_ret3
  exact ⟨rfl, rfl⟩
end Go.Proofs.YtnjdpibgfbbkcabGreatDoor
/-
  dragomanlaw.wireBegun answers true.
-/
namespace Go.Proofs.YtnjdpibgfbbkcabGreatDoor
open Go.RowKit

theorem b_number (w : World) : Calls Tryz.prog 56 #[.int .i64 258, .int .i64 2] w fun e w' => e = .returned (.tuple #[.string ⟨#[1, 2]⟩, .int .i64 0]) ∧ Below w.heap.size w w' :=
  number_2 258 w (by omega) (by omega)
theorem b_get (w : World) : Calls Tryz.prog 82 #[.string ⟨#[1, 2]⟩, .int .i64 0, .int .i64 2] w fun e w' => e = .returned (.tuple #[.int .i64 258, .int .i64 0]) ∧ w' = w :=
  get_ok ⟨#[1, 2]⟩ 0 2 w (by decide) (by omega) (by omega) (by decide)
theorem b_long (w : World) : Calls Tryz.prog 27 #[.int .i64 321] w fun e w' => e = .returned (.tuple #[.string ⟨#[193, 2]⟩, .int .i64 0]) ∧ Below w.heap.size w w' :=
  long_ok 321 w (by omega)
theorem b_getLong (w : World) : Calls Tryz.prog 40 #[.string ⟨#[193, 2]⟩, .int .i64 0] w fun e w' => e = .returned (.tuple #[.int .i64 321, .int .i64 2, .int .i64 0]) ∧ w' = w :=
  getLong_in ⟨#[193, 2]⟩ 0 w (by decide) (by decide)
theorem b_text (w : World) : Calls Tryz.prog 86 #[.string ⟨#[104, 105]⟩] w fun e w' => e = .returned (.tuple #[.string ⟨#[0, 2, 104, 105]⟩, .int .i64 0]) ∧ Below w.heap.size w w' :=
  text_ok ⟨#[104, 105]⟩ w (by decide)
theorem b_getText (w : World) : Calls Tryz.prog 89 #[.string ⟨#[120, 0, 2, 104, 105]⟩, .int .i64 1] w fun e w' => e = .returned (.tuple #[.string ⟨#[104, 105]⟩, .int .i64 4, .int .i64 0]) ∧ Below w.heap.size w w' :=
  getText_ok ⟨#[120, 0, 2, 104, 105]⟩ 1 w (by decide) (by decide) (by decide)

end Go.Proofs.YtnjdpibgfbbkcabGreatDoor
/-
  What the calls of package wire, and the reference's, answer: one statement a call, for every argument.
-/
namespace Go.Proofs.YtnjdpibgfbbkcabGreatDoor
open Go.RowKit

/-- what Get answers -/
def getR (s : ByteArray) (a b : Int) : Int × Int :=
  if b < 1 ∨ 4 < b then (0, 7) else if ¬ (0 ≤ a ∧ a ≤ s.size) then (0, 3) else if (s.size : Int) < a + b then (0, 8) else (beN s a.toNat b.toNat, 0)
/-- what GetLong answers -/
def glR (s : ByteArray) (a : Int) : Int × Int × Int := if ¬ (0 ≤ a ∧ a ≤ s.size) then (0, 0, 3) else glGo s a.toNat 4 0 0
/-- what GetText answers -/
def gtR (s : ByteArray) (a : Int) : ByteArray × Int × Int :=
  if ¬ (0 ≤ a ∧ a ≤ s.size) then (⟨#[]⟩, 0, 3) else if (s.size : Int) < a + 2 then (⟨#[]⟩, 0, 8)
  else if s.size < a.toNat + 2 + beN s a.toNat 2 then (⟨#[]⟩, 0, 8) else (s.extract (a.toNat + 2) (a.toNat + 2 + beN s a.toNat 2), 2 + (beN s a.toNat 2 : Int), 0)

theorem get_any (s : ByteArray) (a b : Int) (w : World) (hs : s.size ≤ maxLen) :
    Calls Tryz.prog 82 #[.string s, .int .i64 a, .int .i64 b] w fun e w' => e = .returned (.tuple #[.int .i64 (getR s a b).1, .int .i64 (getR s a b).2]) ∧ w' = w := by
  unfold getR
  by_cases h1 : b < 1 ∨ 4 < b
  · rw [if_pos h1]; exact get_kind s a b w h1
  · rw [if_neg h1]
    by_cases h2 : ¬ (0 ≤ a ∧ a ≤ s.size)
    · rw [if_pos h2]; exact get_range s a b w hs (by omega) (by omega) h2
    · rw [if_neg h2]
      by_cases h3 : (s.size : Int) < a + b
      · rw [if_pos h3]; exact get_short s a b w hs (by omega) (by omega) (by omega) h3
      · rw [if_neg h3]
        obtain ⟨A, rfl⟩ := Int.eq_ofNat_of_zero_le (show 0 ≤ a by omega)
        obtain ⟨B, rfl⟩ := Int.eq_ofNat_of_zero_le (show 0 ≤ b by omega)
        exact get_ok s A B w hs (by omega) (by omega) (by omega)

theorem getOf_any (s : ByteArray) (a b : Int) (w : World) (hs : s.size ≤ maxLen) :
    Calls Tryz.prog 44 #[.string s, .int .i64 a, .int .i64 b] w fun e w' => e = .returned (.tuple #[.int .i64 (getR s a b).1, .int .i64 (getR s a b).2]) ∧ w' = w := by
  unfold getR
  by_cases h1 : b < 1 ∨ 4 < b
  · rw [if_pos h1]; exact getOf_kind s a b w h1
  · rw [if_neg h1]
    by_cases h2 : ¬ (0 ≤ a ∧ a ≤ s.size)
    · rw [if_pos h2]; exact getOf_range s a b w (by omega) (by omega) h2
    · rw [if_neg h2]
      by_cases h3 : (s.size : Int) < a + b
      · rw [if_pos h3]; exact getOf_short s a b w hs (by omega) (by omega) (by omega) h3
      · rw [if_neg h3]
        obtain ⟨A, rfl⟩ := Int.eq_ofNat_of_zero_le (show 0 ≤ a by omega)
        obtain ⟨B, rfl⟩ := Int.eq_ofNat_of_zero_le (show 0 ≤ b by omega)
        exact getOf_ok s A B w hs (by omega) (by omega) (by omega)

theorem getLong_any (s : ByteArray) (a : Int) (w : World) (hs : s.size ≤ maxLen) :
    Calls Tryz.prog 40 #[.string s, .int .i64 a] w fun e w' => e = .returned (.tuple #[.int .i64 (glR s a).1, .int .i64 (glR s a).2.1, .int .i64 (glR s a).2.2]) ∧ w' = w := by
  unfold glR
  by_cases h2 : ¬ (0 ≤ a ∧ a ≤ s.size)
  · rw [if_pos h2]; exact getLong_out s a w hs h2
  · rw [if_neg h2]
    obtain ⟨A, rfl⟩ := Int.eq_ofNat_of_zero_le (show 0 ≤ a by omega)
    exact getLong_in s A w hs (by omega)

theorem getLongOf_any (s : ByteArray) (a : Int) (w : World) (hs : s.size ≤ maxLen) :
    Calls Tryz.prog 12 #[.string s, .int .i64 a] w fun e w' => e = .returned (.tuple #[.int .i64 (glR s a).1, .int .i64 (glR s a).2.1, .int .i64 (glR s a).2.2]) ∧ w' = w := by
  unfold glR
  by_cases h2 : ¬ (0 ≤ a ∧ a ≤ s.size)
  · rw [if_pos h2]; exact getLongOf_out s a w hs h2
  · rw [if_neg h2]
    obtain ⟨A, rfl⟩ := Int.eq_ofNat_of_zero_le (show 0 ≤ a by omega)
    exact getLongOf_in s A w hs (by omega)

theorem getText_any (s : ByteArray) (a : Int) (w : World) (hs : s.size ≤ maxLen) :
    Calls Tryz.prog 89 #[.string s, .int .i64 a] w fun e w' => e = .returned (.tuple #[.string (gtR s a).1, .int .i64 (gtR s a).2.1, .int .i64 (gtR s a).2.2]) ∧ Below w.heap.size w w' := by
  unfold gtR
  by_cases h2 : ¬ (0 ≤ a ∧ a ≤ s.size)
  · rw [if_pos h2]; exact (getText_range s a w hs h2).mono fun e w' h => ⟨h.1, below_of_eq h.2⟩
  · rw [if_neg h2]
    by_cases h3 : (s.size : Int) < a + 2
    · rw [if_pos h3]; exact (getText_short s a w hs (by omega) h3).mono fun e w' h => ⟨h.1, below_of_eq h.2⟩
    · rw [if_neg h3]
      obtain ⟨A, rfl⟩ := Int.eq_ofNat_of_zero_le (show 0 ≤ a by omega)
      simp only [Int.toNat_natCast]
      by_cases h4 : s.size < A + 2 + beN s A 2
      · rw [if_pos h4]; exact (getText_cut s A w hs (by omega) h4).mono fun e w' h => ⟨h.1, below_of_eq h.2⟩
      · rw [if_neg h4]; exact getText_ok s A w hs (by omega) (by omega)

theorem getTextOf_any (s : ByteArray) (a : Int) (w : World) (hs : s.size ≤ maxLen) :
    Calls Tryz.prog 43 #[.string s, .int .i64 a] w fun e w' => e = .returned (.tuple #[.string (gtR s a).1, .int .i64 (gtR s a).2.1, .int .i64 (gtR s a).2.2]) ∧ w' = w := by
  unfold gtR
  by_cases h2 : ¬ (0 ≤ a ∧ a ≤ s.size)
  · rw [if_pos h2]; exact getTextOf_range s a w h2
  · rw [if_neg h2]
    by_cases h3 : (s.size : Int) < a + 2
    · rw [if_pos h3]; exact getTextOf_short s a w hs (by omega) h3
    · rw [if_neg h3]
      obtain ⟨A, rfl⟩ := Int.eq_ofNat_of_zero_le (show 0 ≤ a by omega)
      simp only [Int.toNat_natCast]
      by_cases h4 : s.size < A + 2 + beN s A 2
      · rw [if_pos h4]; exact getTextOf_cut s A w hs (by omega) h4
      · rw [if_neg h4]; exact getTextOf_ok s A w hs (by omega) (by omega)

/-- the two calls on long numbers, the number in its place or not: what they answer is one -/
def longS (n : Int) : ByteArray := if n < 0 ∨ 268435455 < n then ⟨#[]⟩ else strOfNums (longL 3 n.toNat)
def longE (n : Int) : Int := if n < 0 ∨ 268435455 < n then 3 else 0
def txtS (t : ByteArray) : ByteArray := if 65535 < (t.size : Int) then ⟨#[]⟩ else textS t
def txtE (t : ByteArray) : Int := if 65535 < (t.size : Int) then 2 else 0

theorem long_any (n : Int) (w : World) :
    Calls Tryz.prog 27 #[.int .i64 n] w fun e w' => e = .returned (.tuple #[.string (longS n), .int .i64 (longE n)]) ∧ Below w.heap.size w w' := by
  unfold longS longE
  by_cases h : n < 0 ∨ 268435455 < n
  · rw [if_pos h, if_pos h]; exact (long_no n w h).mono fun e w' h => ⟨h.1, below_of_eq h.2⟩
  · rw [if_neg h, if_neg h]
    obtain ⟨N, rfl⟩ := Int.eq_ofNat_of_zero_le (show 0 ≤ n by omega)
    exact long_ok N w (by omega)

theorem longOf_yes (n : Int) (w : World) (h1 : 0 ≤ n) (h2 : n ≤ 268435455) :
    Calls Tryz.prog 48 #[.int .i64 n] w fun e w' => e = .returned (.string (longS n)) ∧ Below w.heap.size w w' := by
  unfold longS
  rw [if_neg (by omega)]
  obtain ⟨N, rfl⟩ := Int.eq_ofNat_of_zero_le h1
  exact longOf_any 3 N w (by omega) (show N < 268435456 by omega)

theorem text_any (t : ByteArray) (w : World) :
    Calls Tryz.prog 86 #[.string t] w fun e w' => e = .returned (.tuple #[.string (txtS t), .int .i64 (txtE t)]) ∧ Below w.heap.size w w' := by
  unfold txtS txtE
  by_cases h : 65535 < (t.size : Int)
  · rw [if_pos h, if_pos h]; exact (text_many t w h).mono fun e w' h => ⟨h.1, below_of_eq h.2⟩
  · rw [if_neg h, if_neg h]; exact text_ok t w (by omega)

theorem textOf_yes (t : ByteArray) (w : World) (h : (t.size : Int) ≤ 65535) :
    Calls Tryz.prog 45 #[.string t] w fun e w' => e = .returned (.string (txtS t)) ∧ Below w.heap.size w w' := by
  unfold txtS; rw [if_neg (by omega)]; exact textOf_ok t w h

end Go.Proofs.YtnjdpibgfbbkcabGreatDoor
