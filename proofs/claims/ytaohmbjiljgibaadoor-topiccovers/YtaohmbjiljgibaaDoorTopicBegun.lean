/-
  topic.Covers: what it answers; dragomanlaw.topicBegun answers true.
-/
import Derived.Test.YtaohmbjiljgibaaDoorTopicTakes
namespace Go.Proofs.YtaohmbjiljgibaaDoor
open Go.RowKit Go.PlainAid

set_option maxHeartbeats 1000000 in
theorem covers_any (a b : ByteArray) (w : World) (hm : Max w) :
    Calls Tryd.prog 10 #[.string a, .string b] w fun e w' => e = .returned (.tuple #[.bool (covB a b), .int .i64 (covE a b)]) ∧ Below w.heap.size w w' := by
  go_enter Tryd.func10, Tryd.ntmps10
  go_wp2_with fail
  obtain ⟨m, hm0⟩ := hm.2
  refine (filter_any a m _ hm0).mono ?_
  rintro e w1 ⟨rfl, hb1⟩
  have HM1 := hide (hm.below hb1)
  by_cases ha : chk filtF a = 0
  · have ha1 : (chk filtF a != 0) = false := by simp [ha]
    have HA := hide ha
    clear ha
    go_wp2_with fail
    obtain ⟨m1, hm1⟩ := HM1.out.2
    refine (filter_any b m1 _ hm1).mono ?_
    rintro e w2 ⟨rfl, hb2⟩
    have HM2 := hide (HM1.out.below hb2)
    by_cases hb : chk filtF b = 0
    · have hb1' : (chk filtF b != 0) = false := by simp [hb]
      have HB := hide hb
      have HS := hide (chk_ok HA.out)
      have HT := hide (spell_size b (chk_ok hb).1)
      have HU := hide (LV_len60 _ HT.out)
      clear hb
      go_wp2_with fail
      obtain ⟨m2, hm2⟩ := HM2.out.2
      refine (levels_any a m2 _ (by have := HS.out.1; omega) hm2).mono ?_
      rintro e w3 ⟨rfl, rfl⟩
      go_wp2_with fail
      refine (spelled_any b _).mono ?_
      rintro e w3 ⟨rfl, rfl⟩
      go_wp2_with fail
      obtain ⟨m3, hm3⟩ := (HM2.out.alloc (.cells ((LV a).map Value.string).toArray 9)).2
      refine (levels_any (spell b) m3 _ (by have := HT.out; omega) hm3).mono ?_
      rintro e w3 ⟨rfl, rfl⟩
      go_wp2_with fail
      refine (takesIn_any (LV a) (LV (spell b)) _ _ _ (cells_first w2 (LV a) (LV (spell b)) _) (cells_second w2 (LV a) (LV (spell b)) _) (by have := HS.out.2.2.1; omega) (by have := HU.out; omega)).mono ?_
      rintro e w4 ⟨rfl, rfl⟩
      go_wp2_with fail
      go_ret2
      exact ⟨by simp [covB, covE, HA.out, HB.out], (below_step hb1 hb2).trans (((Below.refl _ _).alloc (by have h1 := hb1.size; have h2 := hb2.size; omega) _).alloc (by have h1 := hb1.size; have h2 := hb2.size; simp; omega) _)⟩
    · have hb1' : (chk filtF b != 0) = true := by simp [hb]
      have HB := hide hb
      clear hb
      go_wp2_with fail
      go_ret2
      exact ⟨by simp [covB, covE, HA.out, HB.out], below_step hb1 hb2⟩
  · have ha1 : (chk filtF a != 0) = true := by simp [ha]
    have HA := hide ha
    clear ha
    go_wp2_with fail
    go_ret2
    exact ⟨by simp [covB, covE, HA.out], hb1⟩

theorem name_max (s : ByteArray) (w : World) (hm : Max w) :
    Calls Tryd.prog 8 #[.string s] w fun e w' => e = .returned (.int .i64 (chk nameF s)) ∧ Below w.heap.size w w' := by
  obtain ⟨m, h⟩ := hm.2; exact name_any s m w h
theorem filter_max (s : ByteArray) (w : World) (hm : Max w) :
    Calls Tryd.prog 11 #[.string s] w fun e w' => e = .returned (.int .i64 (chk filtF s)) ∧ Below w.heap.size w w' := by
  obtain ⟨m, h⟩ := hm.2; exact filter_any s m w h

theorem b_m1 (w : World) (hm : Max w) : Calls Tryd.prog 9 #[.string ⟨#[97, 47, 43, 47, 35]⟩, .string ⟨#[97, 47, 98]⟩] w fun e w' => e = .returned (.tuple #[.bool true, .int .i64 0]) ∧ Below w.heap.size w w' := by
  have := match_any ⟨#[97, 47, 43, 47, 35]⟩ ⟨#[97, 47, 98]⟩ w hm
  rwa [show matchB ⟨#[97, 47, 43, 47, 35]⟩ ⟨#[97, 47, 98]⟩ = true by decide +kernel, show matchE ⟨#[97, 47, 43, 47, 35]⟩ ⟨#[97, 47, 98]⟩ = 0 by decide +kernel] at this
theorem b_m2 (w : World) (hm : Max w) : Calls Tryd.prog 9 #[.string ⟨#[97, 47, 43]⟩, .string ⟨#[97, 47, 98, 47, 99]⟩] w fun e w' => e = .returned (.tuple #[.bool false, .int .i64 0]) ∧ Below w.heap.size w w' := by
  have := match_any ⟨#[97, 47, 43]⟩ ⟨#[97, 47, 98, 47, 99]⟩ w hm
  rwa [show matchB ⟨#[97, 47, 43]⟩ ⟨#[97, 47, 98, 47, 99]⟩ = false by decide +kernel, show matchE ⟨#[97, 47, 43]⟩ ⟨#[97, 47, 98, 47, 99]⟩ = 0 by decide +kernel] at this
theorem b_c1 (w : World) (hm : Max w) : Calls Tryd.prog 10 #[.string ⟨#[35]⟩, .string ⟨#[97, 47, 43]⟩] w fun e w' => e = .returned (.tuple #[.bool true, .int .i64 0]) ∧ Below w.heap.size w w' := by
  have := covers_any ⟨#[35]⟩ ⟨#[97, 47, 43]⟩ w hm
  rwa [show covB ⟨#[35]⟩ ⟨#[97, 47, 43]⟩ = true by decide +kernel, show covE ⟨#[35]⟩ ⟨#[97, 47, 43]⟩ = 0 by decide +kernel] at this
theorem b_c2 (w : World) (hm : Max w) : Calls Tryd.prog 10 #[.string ⟨#[97, 47, 43]⟩, .string ⟨#[97, 47, 35]⟩] w fun e w' => e = .returned (.tuple #[.bool false, .int .i64 0]) ∧ Below w.heap.size w w' := by
  have := covers_any ⟨#[97, 47, 43]⟩ ⟨#[97, 47, 35]⟩ w hm
  rwa [show covB ⟨#[97, 47, 43]⟩ ⟨#[97, 47, 35]⟩ = false by decide +kernel, show covE ⟨#[97, 47, 43]⟩ ⟨#[97, 47, 35]⟩ = 0 by decide +kernel] at this
theorem b_n1 (w : World) (hm : Max w) : Calls Tryd.prog 8 #[.string ⟨#[97, 47, 98]⟩] w fun e w' => e = .returned (.int .i64 0) ∧ Below w.heap.size w w' := by
  have := name_max ⟨#[97, 47, 98]⟩ w hm
  rwa [show chk nameF ⟨#[97, 47, 98]⟩ = 0 by decide +kernel] at this
theorem b_f1 (w : World) (hm : Max w) : Calls Tryd.prog 11 #[.string ⟨#[97, 47, 43, 47, 35]⟩] w fun e w' => e = .returned (.int .i64 0) ∧ Below w.heap.size w w' := by
  have := filter_max ⟨#[97, 47, 43, 47, 35]⟩ w hm
  rwa [show chk filtF ⟨#[97, 47, 43, 47, 35]⟩ = 0 by decide +kernel] at this
theorem b_n2 (w : World) (hm : Max w) : Calls Tryd.prog 8 #[.string ⟨#[97, 47, 43]⟩] w fun e w' => e = .returned (.int .i64 1) ∧ Below w.heap.size w w' := by
  have := name_max ⟨#[97, 47, 43]⟩ w hm
  rwa [show chk nameF ⟨#[97, 47, 43]⟩ = 1 by decide +kernel] at this

set_option maxHeartbeats 1000000 in
theorem topicBegun_yes (w : World) (hm : Max w) : Calls Tryd.prog 7 #[] w fun e w' => e = .returned (.bool true) ∧ Below w.heap.size w w' := by
  go_enter Tryd.func7, Tryd.ntmps7
  go_wp2_with fail
  refine (b_m1 _ hm).mono ?_
  rintro e w1 ⟨rfl, hb1⟩
  have HM1 := hide (hm.below hb1)
  go_wp2_with fail
  refine (b_m2 _ HM1.out).mono ?_
  rintro e w2 ⟨rfl, hb2⟩
  have HM2 := hide (HM1.out.below hb2)
  go_wp2_with fail
  refine (b_c1 _ HM2.out).mono ?_
  rintro e w3 ⟨rfl, hb3⟩
  have HM3 := hide (HM2.out.below hb3)
  go_wp2_with fail
  refine (b_c2 _ HM3.out).mono ?_
  rintro e w4 ⟨rfl, hb4⟩
  have HM4 := hide (HM3.out.below hb4)
  go_wp2_with fail
  refine (b_n1 _ HM4.out).mono ?_
  rintro e w5 ⟨rfl, hb5⟩
  have HM5 := hide (HM4.out.below hb5)
  go_wp2_with fail
  refine (b_f1 _ HM5.out).mono ?_
  rintro e w6 ⟨rfl, hb6⟩
  have HM6 := hide (HM5.out.below hb6)
  go_wp2_with fail
  refine (b_n2 _ HM6.out).mono ?_
  rintro e w7 ⟨rfl, hb7⟩
  go_wp2
  go_ret
  exact ⟨rfl, below_step (below_step (below_step (below_step (below_step (below_step hb1 hb2) hb3) hb4) hb5) hb6) hb7⟩
end Go.Proofs.YtaohmbjiljgibaaDoor
