/-
  The walk of dragomanlaw.TopicCovers: it answers true, whatever it is handed.
-/
import Derived.Test.YtaohmbjiljgibaaDoorTopicCoversMath
namespace Go.Proofs.YtaohmbjiljgibaaDoor
open Go.RowKit Go.PlainAid

set_option maxHeartbeats 2000000 in
set_option maxRecDepth 100000 in
theorem topicCovers_walk (a b c n : ByteArray) (w : World) (hm : Max w) :
    Calls Tryd.prog 5 #[.string a, .string b, .string c, .string n] w fun e w' => e = .returned (.bool true) ∧ Below w.heap.size w w' := by
  go_enter Tryd.func5, Tryd.ntmps5
  go_wp2_with fail
  refine (topicBegun_yes _ hm).mono ?_
  rintro e w1 ⟨rfl, hb1⟩
  have HM1 := hide (hm.below hb1)
  go_wp2_with fail
  refine (covers_any a b _ HM1.out).mono ?_
  rintro e w2 ⟨rfl, hb2⟩
  have HM2 := hide (HM1.out.below hb2)
  by_cases he : covE a b = 0
  · have he1 : (covE a b != 0) = false := by simp [he]
    obtain ⟨ha, hb⟩ := cov_both he
    have HA := hide ha
    have HB := hide hb
    clear he ha hb
    have q1 : covE a a = 0 := by rw [covE_ok HA.out, HA.out]
    have q2 := cov_self HA.out
    go_wp2_with fail
    refine (covers_any a a _ HM2.out).mono ?_
    rintro e w3 ⟨rfl, hb3⟩
    have HM3 := hide (HM2.out.below hb3)
    go_wp2_with fail
    refine (match_any a n _ HM3.out).mono ?_
    rintro e w4 ⟨rfl, hb4⟩
    have HM4 := hide (HM3.out.below hb4)
    go_wp2_with fail
    refine (match_any b n _ HM4.out).mono ?_
    rintro e w5 ⟨rfl, hb5⟩
    have HM5 := hide (HM4.out.below hb5)
    have q3 := matchE_ok (b := n) HA.out
    have q4 := matchE_ok (b := n) HB.out
    have q5 := covE_ok (b := c) HA.out
    have q6 := covE_ok (b := c) HB.out
    have Q7 := hide (fun (hx : covB a b = true) (hn : matchB b n = true) => cov_match HA.out HB.out hx hn)
    have Q8 := hide (fun (hx : covB a b = true) (hy : covB b c = true) => cov_cov HA.out HB.out hx hy)
    have HBW0 := hide (below_step (below_step (below_step (below_step hb1 hb2) hb3) hb4) hb5)
    clear hb1 hb2 hb3 hb4 hb5 HM1 HM2 HM3 HM4
    cases hx : covB a b with
    | false =>
      go_wp2_with fail
      refine (covers_any b c _ HM5.out).mono ?_
      rintro e w6 ⟨rfl, hb6⟩
      have HM6 := hide (HM5.out.below hb6)
      go_wp2_with fail
      refine (covers_any a c _ HM6.out).mono ?_
      rintro e w7 ⟨rfl, hb7⟩
      have HBW := hide (below_step (below_step HBW0.out hb6) hb7)
      clear hb6 hb7 HM5 HM6
      go_wp2
      go_ret
      exact ⟨rfl, HBW.out⟩
    | true =>
      cases hn : matchB b n with
      | false =>
        go_wp2_with fail
        refine (covers_any b c _ HM5.out).mono ?_
        rintro e w6 ⟨rfl, hb6⟩
        have HM6 := hide (HM5.out.below hb6)
        go_wp2_with fail
        refine (covers_any a c _ HM6.out).mono ?_
        rintro e w7 ⟨rfl, hb7⟩
        have HBW := hide (below_step (below_step HBW0.out hb6) hb7)
        clear hb6 hb7 HM5 HM6
        cases hy : covB b c with
        | false =>
          go_wp2
          go_ret
          exact ⟨rfl, HBW.out⟩
        | true =>
          have hz := Q8.out hx hy
          go_wp2
          go_ret
          exact ⟨rfl, HBW.out⟩
      | true =>
        have hmm := Q7.out hx hn
        go_wp2_with fail
        refine (covers_any b c _ HM5.out).mono ?_
        rintro e w6 ⟨rfl, hb6⟩
        have HM6 := hide (HM5.out.below hb6)
        go_wp2_with fail
        refine (covers_any a c _ HM6.out).mono ?_
        rintro e w7 ⟨rfl, hb7⟩
        have HBW := hide (below_step (below_step HBW0.out hb6) hb7)
        clear hb6 hb7 HM5 HM6
        cases hy : covB b c with
        | false =>
          go_wp2
          go_ret
          exact ⟨rfl, HBW.out⟩
        | true =>
          have hz := Q8.out hx hy
          go_wp2
          go_ret
          exact ⟨rfl, HBW.out⟩
  · have he1 : (covE a b != 0) = true := by simp [he]
    have q1 := cov_no he
    clear he
    go_wp2
    go_ret
    exact ⟨rfl, below_step hb1 hb2⟩
end Go.Proofs.YtaohmbjiljgibaaDoor
