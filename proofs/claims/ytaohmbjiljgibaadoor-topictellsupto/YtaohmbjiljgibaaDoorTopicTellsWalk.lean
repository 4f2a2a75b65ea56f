/-
  The walk of dragomanlaw.TopicTells: it answers true, for two texts of at most 1048576 bytes each.
-/
import Derived.Test.YtaohmbjiljgibaaDoorTopicCoversRef
namespace Go.Proofs.YtaohmbjiljgibaaDoor
open Go.RowKit Go.PlainAid

theorem checkF_any (s : ByteArray) (w : World) (hs : s.size ≤ 1048576) :
    Calls Tryd.prog 12 #[.string s, .bool true] w fun e w' => e = .returned (.int .i64 (chk filtF s)) ∧ Below w.heap.size w w' := checkTopic_any s true w hs
theorem checkN_any (s : ByteArray) (w : World) (hs : s.size ≤ 1048576) :
    Calls Tryd.prog 12 #[.string s, .bool false] w fun e w' => e = .returned (.int .i64 (chk nameF s)) ∧ Below w.heap.size w w' := checkTopic_any s false w hs

set_option maxHeartbeats 2000000 in
set_option maxRecDepth 100000 in
theorem topicTells_no (a b : ByteArray) (w : World) (hm : Max w) (ha : a.size ≤ 1048576) (_hb : b.size ≤ 1048576) (h : chk filtF a ≠ 0) :
    Calls Tryd.prog 4 #[.string a, .string b] w fun e w' => e = .returned (.bool true) ∧ Below w.heap.size w w' := by
  have q1 : matchB a b = false := by simp [matchB, h]
  have q2 : matchE a b = chk filtF a := if_neg h
  have q3 : covB a b = false := by simp [covB, h]
  have q4 : covE a b = chk filtF a := if_neg h
  have q5 : (chk filtF a == 0) = false := by simpa using h
  clear h
  go_enter Tryd.func4, Tryd.ntmps4
  go_wp2_with fail
  refine (match_any a b _ hm).mono ?_
  rintro e w1 ⟨rfl, hb1⟩
  have HM1 := hide (hm.below hb1)
  go_wp2_with fail
  refine (covers_any a b _ HM1.out).mono ?_
  rintro e w2 ⟨rfl, hb2⟩
  have HM2 := hide (HM1.out.below hb2)
  go_wp2_with fail
  refine (checkF_any a _ ha).mono ?_
  rintro e w3 ⟨rfl, hb3⟩
  have HM3 := hide (HM2.out.below hb3)
  go_wp2_with fail
  refine (topicBegun_yes _ HM3.out).mono ?_
  rintro e w4 ⟨rfl, hb4⟩
  have HM4 := hide (HM3.out.below hb4)
  go_wp2_with fail
  refine (name_max a _ HM4.out).mono ?_
  rintro e w5 ⟨rfl, hb5⟩
  have HM5 := hide (HM4.out.below hb5)
  go_wp2_with fail
  refine (checkN_any a _ ha).mono ?_
  rintro e w6 ⟨rfl, hb6⟩
  have HM6 := hide (HM5.out.below hb6)
  go_wp2_with fail
  refine (filter_max a _ HM6.out).mono ?_
  rintro e w7 ⟨rfl, hb7⟩
  have HM7 := hide (HM6.out.below hb7)
  go_wp2_with fail
  refine (checkF_any a _ ha).mono ?_
  rintro e w8 ⟨rfl, hb8⟩
  have HM8 := hide (HM7.out.below hb8)
  go_wp2
  go_ret
  exact ⟨rfl, below_step (below_step (below_step (below_step (below_step (below_step (below_step hb1 hb2) hb3) hb4) hb5) hb6) hb7) hb8⟩

set_option maxHeartbeats 2000000 in
set_option maxRecDepth 100000 in
theorem topicTells_name (a b : ByteArray) (w : World) (hm : Max w) (ha : a.size ≤ 1048576) (hb : b.size ≤ 1048576) (h : chk filtF a = 0) (hn : chk nameF b = 0) :
    Calls Tryd.prog 4 #[.string a, .string b] w fun e w' => e = .returned (.bool true) ∧ Below w.heap.size w w' := by
  have HA := hide h
  have q2 := matchE_ok (b := b) h
  have q4 := covE_ok (b := b) h
  have q5 : (chk filtF a == 0) = true := by simp [h]
  have HNL := hide (fun x hx => plain_hash (name_levels hn x hx))
  have q1 := matchB_ok h hn
  have q3 := covB_ok h (name_filter hn)
  have q6 : (chk nameF b == 0) = true := by simp [hn]
  have q7 : (chk filtF b == 0) = true := by simp [name_filter hn]
  clear h hn
  go_enter Tryd.func4, Tryd.ntmps4
  go_wp2_with fail
  refine (match_any a b _ hm).mono ?_
  rintro e w1 ⟨rfl, hb1⟩
  have HM1 := hide (hm.below hb1)
  go_wp2_with fail
  refine (covers_any a b _ HM1.out).mono ?_
  rintro e w2 ⟨rfl, hb2⟩
  have HM2 := hide (HM1.out.below hb2)
  go_wp2_with fail
  refine (checkF_any a _ ha).mono ?_
  rintro e w3 ⟨rfl, hb3⟩
  have HM3 := hide (HM2.out.below hb3)
  go_wp2_with fail
  refine (checkN_any b _ hb).mono ?_
  rintro e w4 ⟨rfl, hb4⟩
  have HM4 := hide (HM3.out.below hb4)
  go_wp2_with fail
  refine (checkF_any b _ hb).mono ?_
  rintro e w5 ⟨rfl, hb5⟩
  have HM5 := hide (HM4.out.below hb5)
  go_wp2_with fail
  refine (topicBegun_yes _ HM5.out).mono ?_
  rintro e w6 ⟨rfl, hb6⟩
  have HM6 := hide (HM5.out.below hb6)
  go_wp2_with fail
  refine (name_max a _ HM6.out).mono ?_
  rintro e w7 ⟨rfl, hb7⟩
  have HM7 := hide (HM6.out.below hb7)
  go_wp2_with fail
  refine (checkN_any a _ ha).mono ?_
  rintro e w8 ⟨rfl, hb8⟩
  have HM8 := hide (HM7.out.below hb8)
  go_wp2_with fail
  refine (filter_max a _ HM8.out).mono ?_
  rintro e w9 ⟨rfl, hb9⟩
  have HM9 := hide (HM8.out.below hb9)
  go_wp2_with fail
  refine (checkF_any a _ ha).mono ?_
  rintro e w10 ⟨rfl, hb10⟩
  have HM10 := hide (HM9.out.below hb10)
  go_wp2_with fail
  refine (isFor_any a b _ ha hb HNL.out).mono ?_
  rintro e w11 ⟨rfl, hb11⟩
  have HM11 := hide (HM10.out.below hb11)
  go_wp2_with fail
  refine (coversOf_any a b _ ha hb).mono ?_
  rintro e w12 ⟨rfl, hb12⟩
  have HM12 := hide (HM11.out.below hb12)
  go_wp2
  go_ret
  exact ⟨rfl, below_step (below_step (below_step (below_step (below_step (below_step (below_step (below_step (below_step (below_step (below_step hb1 hb2) hb3) hb4) hb5) hb6) hb7) hb8) hb9) hb10) hb11) hb12⟩

set_option maxHeartbeats 2000000 in
set_option maxRecDepth 100000 in
theorem topicTells_filter (a b : ByteArray) (w : World) (hm : Max w) (ha : a.size ≤ 1048576) (hb : b.size ≤ 1048576) (h : chk filtF a = 0) (hn : chk nameF b ≠ 0) (hf : chk filtF b = 0) :
    Calls Tryd.prog 4 #[.string a, .string b] w fun e w' => e = .returned (.bool true) ∧ Below w.heap.size w w' := by
  have HA := hide h
  have q2 := matchE_ok (b := b) h
  have q4 := covE_ok (b := b) h
  have q5 : (chk filtF a == 0) = true := by simp [h]
  have q1 : matchB a b = false := by simp [matchB, hn]
  have q3 := covB_ok h hf
  have q6 : (chk nameF b == 0) = false := by simpa using hn
  have q7 : (chk filtF b == 0) = true := by simp [hf]
  clear h hn hf
  go_enter Tryd.func4, Tryd.ntmps4
  go_wp2_with fail
  refine (match_any a b _ hm).mono ?_
  rintro e w1 ⟨rfl, hb1⟩
  have HM1 := hide (hm.below hb1)
  go_wp2_with fail
  refine (covers_any a b _ HM1.out).mono ?_
  rintro e w2 ⟨rfl, hb2⟩
  have HM2 := hide (HM1.out.below hb2)
  go_wp2_with fail
  refine (checkF_any a _ ha).mono ?_
  rintro e w3 ⟨rfl, hb3⟩
  have HM3 := hide (HM2.out.below hb3)
  go_wp2_with fail
  refine (checkN_any b _ hb).mono ?_
  rintro e w4 ⟨rfl, hb4⟩
  have HM4 := hide (HM3.out.below hb4)
  go_wp2_with fail
  refine (checkF_any b _ hb).mono ?_
  rintro e w5 ⟨rfl, hb5⟩
  have HM5 := hide (HM4.out.below hb5)
  go_wp2_with fail
  refine (topicBegun_yes _ HM5.out).mono ?_
  rintro e w6 ⟨rfl, hb6⟩
  have HM6 := hide (HM5.out.below hb6)
  go_wp2_with fail
  refine (name_max a _ HM6.out).mono ?_
  rintro e w7 ⟨rfl, hb7⟩
  have HM7 := hide (HM6.out.below hb7)
  go_wp2_with fail
  refine (checkN_any a _ ha).mono ?_
  rintro e w8 ⟨rfl, hb8⟩
  have HM8 := hide (HM7.out.below hb8)
  go_wp2_with fail
  refine (filter_max a _ HM8.out).mono ?_
  rintro e w9 ⟨rfl, hb9⟩
  have HM9 := hide (HM8.out.below hb9)
  go_wp2_with fail
  refine (checkF_any a _ ha).mono ?_
  rintro e w10 ⟨rfl, hb10⟩
  have HM10 := hide (HM9.out.below hb10)
  go_wp2_with fail
  refine (coversOf_any a b _ ha hb).mono ?_
  rintro e w11 ⟨rfl, hb11⟩
  have HM11 := hide (HM10.out.below hb11)
  go_wp2
  go_ret
  exact ⟨rfl, below_step (below_step (below_step (below_step (below_step (below_step (below_step (below_step (below_step (below_step hb1 hb2) hb3) hb4) hb5) hb6) hb7) hb8) hb9) hb10) hb11⟩

set_option maxHeartbeats 2000000 in
set_option maxRecDepth 100000 in
theorem topicTells_wrong (a b : ByteArray) (w : World) (hm : Max w) (ha : a.size ≤ 1048576) (hb : b.size ≤ 1048576) (h : chk filtF a = 0) (hn : chk nameF b ≠ 0) (hf : chk filtF b ≠ 0) :
    Calls Tryd.prog 4 #[.string a, .string b] w fun e w' => e = .returned (.bool true) ∧ Below w.heap.size w w' := by
  have HA := hide h
  have q2 := matchE_ok (b := b) h
  have q4 := covE_ok (b := b) h
  have q5 : (chk filtF a == 0) = true := by simp [h]
  have q1 : matchB a b = false := by simp [matchB, hn]
  have q3 : covB a b = false := by simp [covB, hf]
  have q6 : (chk nameF b == 0) = false := by simpa using hn
  have q7 : (chk filtF b == 0) = false := by simpa using hf
  clear h hn hf
  go_enter Tryd.func4, Tryd.ntmps4
  go_wp2_with fail
  refine (match_any a b _ hm).mono ?_
  rintro e w1 ⟨rfl, hb1⟩
  have HM1 := hide (hm.below hb1)
  go_wp2_with fail
  refine (covers_any a b _ HM1.out).mono ?_
  rintro e w2 ⟨rfl, hb2⟩
  have HM2 := hide (HM1.out.below hb2)
  go_wp2_with fail
  refine (checkF_any a _ ha).mono ?_
  rintro e w3 ⟨rfl, hb3⟩
  have HM3 := hide (HM2.out.below hb3)
  go_wp2_with fail
  refine (checkN_any b _ hb).mono ?_
  rintro e w4 ⟨rfl, hb4⟩
  have HM4 := hide (HM3.out.below hb4)
  go_wp2_with fail
  refine (checkF_any b _ hb).mono ?_
  rintro e w5 ⟨rfl, hb5⟩
  have HM5 := hide (HM4.out.below hb5)
  go_wp2_with fail
  refine (topicBegun_yes _ HM5.out).mono ?_
  rintro e w6 ⟨rfl, hb6⟩
  have HM6 := hide (HM5.out.below hb6)
  go_wp2_with fail
  refine (name_max a _ HM6.out).mono ?_
  rintro e w7 ⟨rfl, hb7⟩
  have HM7 := hide (HM6.out.below hb7)
  go_wp2_with fail
  refine (checkN_any a _ ha).mono ?_
  rintro e w8 ⟨rfl, hb8⟩
  have HM8 := hide (HM7.out.below hb8)
  go_wp2_with fail
  refine (filter_max a _ HM8.out).mono ?_
  rintro e w9 ⟨rfl, hb9⟩
  have HM9 := hide (HM8.out.below hb9)
  go_wp2_with fail
  refine (checkF_any a _ ha).mono ?_
  rintro e w10 ⟨rfl, hb10⟩
  have HM10 := hide (HM9.out.below hb10)
  go_wp2
  go_ret
  exact ⟨rfl, below_step (below_step (below_step (below_step (below_step (below_step (below_step (below_step (below_step hb1 hb2) hb3) hb4) hb5) hb6) hb7) hb8) hb9) hb10⟩

theorem topicTells_walk (a b : ByteArray) (w : World) (hm : Max w) (ha : a.size ≤ 1048576) (hb : b.size ≤ 1048576) :
    Calls Tryd.prog 4 #[.string a, .string b] w fun e w' => e = .returned (.bool true) ∧ Below w.heap.size w w' := by
  by_cases h : chk filtF a = 0
  · by_cases hn : chk nameF b = 0
    · exact topicTells_name a b w hm ha hb h hn
    · by_cases hf : chk filtF b = 0
      · exact topicTells_filter a b w hm ha hb h hn hf
      · exact topicTells_wrong a b w hm ha hb h hn hf
  · exact topicTells_no a b w hm ha hb h
end Go.Proofs.YtaohmbjiljgibaaDoor
