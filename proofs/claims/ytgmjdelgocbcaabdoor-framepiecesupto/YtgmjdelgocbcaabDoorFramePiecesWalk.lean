/-
  The walk of dragomanlaw.FramePieces: true, for a stream of at most 1048576 bytes.
-/
import Derived.Test.YtgmjdelgocbcaabDoorFrameMore
namespace Go.Proofs.YtgmjdelgocbcaabDoor
open Go.RowKit Go.PlainAid

set_option maxHeartbeats 8000000 in
set_option maxRecDepth 100000 in
theorem framePieces_any (s : ByteArray) (cut more : Int) (w : World) (hm : Max w) (hs : s.size ≤ 1048576) :
    Calls Tryd.prog 6 #[.string s, .int .i64 cut, .int .i64 more] w fun e w' => e = .returned (.bool true) ∧ Below w.heap.size w w' := by
  have HM := hide hm
  have P1 := hide (fun V (h : Below w.heap.size w V) => packetBegun_yes V (hm.below h))
  have P2 := hide (fun V (h : Below w.heap.size w V) => frameBegun_yes V (hm.below h))
  have CF0 : Hid (∀ V, Below w.heap.size w V → Calls Tryd.prog 16 #[.string ⟨#[]⟩, .string s] V (FeedPost V (fd s))) := fun V hV => by
    have := feed_any ⟨#[]⟩ s V (by show 0 + s.size ≤ _; omega) (hm.below hV)
    rwa [str_nil] at this
  by_cases hin : cut < 0 ∨ more < 0 ∨ (s.size : Int) < cut ∨ (s.size : Int) - cut < more
  · clear hm
    generalize fd s = R0 at *
    obtain ⟨l0, r0, e0⟩ := R0
    go_enter Tryd.func6, Tryd.ntmps6
    go_wp2_with fail
    refine (CF0.out _ (Below.refl _ _)).mono ?_
    rintro e w1 ⟨ao, co, Q, rfl, hQ, hL, hb⟩
    have HB := hide hb
    clear hQ hL hb
    go_wp2_with fail
    refine (P1.out _ HB.out).mono ?_
    rintro e w2 ⟨rfl, hb⟩
    have HB := hide (below_step HB.out hb)
    clear hb
    go_wp2_with fail
    refine (P2.out _ HB.out).mono ?_
    rintro e w3 ⟨rfl, hb⟩
    have HB := hide (below_step HB.out hb)
    clear hb P1 P2 CF0 HM
    by_cases h1 : cut < 0
    · clear hin
      go_wp2
      go_ret
      exact ⟨rfl, HB.out⟩
    · by_cases h2 : more < 0
      · clear hin
        go_wp2
        go_ret
        exact ⟨rfl, HB.out⟩
      · by_cases h3 : (s.size : Int) < cut
        · clear hin
          go_wp2
          go_ret
          exact ⟨rfl, HB.out⟩
        · have h4 : (s.size : Int) - cut < more := by omega
          clear hin
          go_wp2
          go_ret
          exact ⟨rfl, HB.out⟩
  · obtain ⟨c, rfl⟩ : ∃ c : Nat, cut = c := ⟨cut.toNat, by omega⟩
    obtain ⟨m, rfl⟩ : ∃ m : Nat, more = m := ⟨more.toNat, by omega⟩
    have hcm : c + m ≤ s.size := by omega
    have hcs : c ≤ s.size := by omega
    have hi1 : ¬ (s.size : Int) < c := by omega
    have hi2 : ¬ (s.size : Int) - c < m := by omega
    have hi3 : (c : Int) + m ≤ s.size := by omega
    have hi4 : (c : Int) ≤ s.size := by omega
    clear hin
    have h3 := fd_three (s.extract 0 c) (s.extract c (c + m)) (s.extract (c + m) s.size)
    rw [← three_cuts s c m hcm] at h3
    have z1 : (s.extract 0 c).size = c := by rw [ByteArray.size_extract]; omega
    have z2 : (s.extract c (c + m)).size = m := by rw [ByteArray.size_extract]; omega
    have z3 : (s.extract (c + m) s.size).size = s.size - (c + m) := by rw [ByteArray.size_extract]; omega
    have r0 := fd_right _ s (Nat.le_refl _)
    have r1 := (fd_right _ (s.extract 0 c) (Nat.le_refl _)).2
    have CF1 : Hid (∀ V, Below w.heap.size w V → Calls Tryd.prog 16 #[.string ⟨#[]⟩, .string (s.extract 0 c)] V (FeedPost V (fd (s.extract 0 c)))) := fun V hV => by
      have := feed_any ⟨#[]⟩ (s.extract 0 c) V (by show 0 + (s.extract 0 c).size ≤ _; omega) (hm.below hV)
      rwa [str_nil] at this
    have CF2 : Hid (∀ V, Below w.heap.size w V → Calls Tryd.prog 16 #[.string (fd (s.extract 0 c)).2.1, .string (s.extract c (c + m))] V (FeedPost V (fd ((fd (s.extract 0 c)).2.1 ++ s.extract c (c + m))))) := fun V hV => feed_any _ _ V (by omega) (hm.below hV)
    have r2 := (fd_right _ ((fd (s.extract 0 c)).2.1 ++ s.extract c (c + m)) (Nat.le_refl _)).2
    rw [ByteArray.size_append] at r2
    have CF3 : Hid (∀ V, Below w.heap.size w V → Calls Tryd.prog 16 #[.string (fd ((fd (s.extract 0 c)).2.1 ++ s.extract c (c + m))).2.1, .string (s.extract (c + m) s.size)] V (FeedPost V (fd ((fd ((fd (s.extract 0 c)).2.1 ++ s.extract c (c + m))).2.1 ++ s.extract (c + m) s.size)))) := fun V hV => feed_any _ _ V (by omega) (hm.below hV)
    rw [z1] at r1
    rw [z2] at r2
    clear z1 z2 z3 hm
    generalize hR3 : fd ((fd ((fd (s.extract 0 c)).2.1 ++ s.extract c (c + m))).2.1 ++ s.extract (c + m) s.size) = R3 at *
    clear hR3
    generalize hR2 : fd ((fd (s.extract 0 c)).2.1 ++ s.extract c (c + m)) = R2 at *
    clear hR2
    generalize hR1 : fd (s.extract 0 c) = R1 at *
    clear hR1
    generalize hR0 : fd s = R0 at *
    clear hR0
    obtain ⟨l0, x0, e0⟩ := R0
    obtain ⟨l1, x1, e1⟩ := R1
    obtain ⟨l2, x2, e2⟩ := R2
    obtain ⟨l3, x3, e3⟩ := R3
    simp only [Prod.mk.injEq] at h3 r0 r1 r2 CF0 CF1 CF2 CF3
    obtain ⟨q1, q2, q3⟩ := h3
    have Q1 := hide q1
    have Q2 := hide q2
    have Q3 := hide q3
    have R0 := hide r0
    have hr1 : l1.length ≤ 1048576 := by omega
    have hr2 : l2.length ≤ 1048576 := by omega
    clear q1 q2 q3 r0 r1 r2
    go_enter Tryd.func6, Tryd.ntmps6
    go_wp2_with fail
    refine (CF0.out _ (Below.refl _ _)).mono ?_
    rintro e w1 ⟨ao, co, L0, rfl, hQ, hL, hb⟩
    have HL0 := hide hL
    have HQ0 : Hid (L0.map Lp.p = l0) := hQ
    have HB := hide hb
    clear hb hL hQ CF0
    go_wp2_with fail
    refine (P1.out _ HB.out).mono ?_
    rintro e w2 ⟨rfl, hb⟩
    have HB := hide (below_step HB.out hb)
    have HL0 := hide (HL0.out.step hb)
    clear hb P1
    go_wp2_with fail
    refine (P2.out _ HB.out).mono ?_
    rintro e w3 ⟨rfl, hb⟩
    have HB := hide (below_step HB.out hb)
    have HL0 := hide (HL0.out.step hb)
    clear hb P2
    go_wp2_with fail
    refine (CF1.out _ HB.out).mono ?_
    rintro e w4 ⟨aa, ca, LA, rfl, hQ, hL, hb⟩
    have HLA := hide hL
    have HQA : Hid (LA.map Lp.p = l1) := hQ
    have HB := hide (below_step HB.out hb)
    have HL0 := hide (HL0.out.step hb)
    clear hb hL hQ CF1
    have len0 : L0.length ≤ 1048576 := by
      have e := congrArg List.length HQ0.out
      rw [List.length_map] at e
      have := R0.out.2
      omega
    have HR0 : Hid (∀ q ∈ L0, q.p.asks.length ≤ 6 ∧ q.p.codes.length ≤ 6) := fun q hq => R0.out.1 q.p (by rw [← HQ0.out]; exact List.mem_map_of_mem hq)
    go_upto_if 61 with fail
    by_cases hf : e1 = 0
    · subst hf
      have U2 := hide (Q2.out rfl)
      have U3 := hide (Q3.out rfl)
      clear Q2 Q3
      go_wp2_with fail
      refine (CF2.out _ HB.out).mono ?_
      rintro e w5 ⟨ab, cb, LB, rfl, hQ, hL, hb⟩
      have HLB := hide hL
      have HQB : Hid (LB.map Lp.p = l2) := hQ
      have HB := hide (below_step HB.out hb)
      have HL0 := hide (HL0.out.step hb)
      have HLA := hide (HLA.out.step hb)
      clear hb hL hQ CF2 Q1
      have HFA := hide (fr_new w5)
      have lenA : LA.length + LB.length ≤ 3000000 := by
        have e := congrArg List.length HQA.out
        have e' := congrArg List.length HQB.out
        rw [List.length_map] at e e'
        omega
      go_wp2_with (at_builtin; refine wpPs rfl rfl _ _ rfl (some ⟨w5.heap.size, 0, none⟩) 0 0 rfl aa LA.length ca rfl LA rfl rfl LA.length (Nat.zero_add _) HFA.out (HLA.out.step HFA.out.bel) (fun q hq => Far.of_old (HLA.out.2 q hq).1 HFA.out.bel (fr_ge HFA.out)) (by omega) ?_)
      intro g1 k1 W6 hf1 _
      have HF1 : Hid (Fr 0 w5 LA (.slice g1 LA.length k1) W6) := hf1
      clear hf1 HFA
      go_wp2_with (at_builtin; refine wpPs rfl rfl _ _ rfl g1 LA.length k1 rfl ab LB.length cb rfl LB rfl rfl (LA.length + LB.length) rfl HF1.out (HLB.out.step HF1.out.bel) (fun q hq => Far.of_old (HLB.out.2 q hq).1 HF1.out.bel (fr_ge HF1.out)) (by omega) ?_)
      intro g2 k2 W7 hf2 _
      have HF2 : Hid (Fr 0 w5 (LA ++ LB) (.slice g2 (LA.length + LB.length) k2) W7) := hf2
      have HB5 := HB
      have HL5 := HL0
      have HB := hide (below_step HB.out hf2.bel)
      have HL0 := hide (HL0.out.step hf2.bel)
      have HQAB : Hid ((LA ++ LB).map Lp.p = l1 ++ l2) := by show _ = _; rw [List.map_append, HQA.out, HQB.out]
      clear hf2 HF1 HLA HLB HQA HQB
      go_upto_if 88 with fail
      by_cases hg : e2 = 0
      · subst hg
        have U4 := hide (U3.out rfl)
        clear U2 U3
        go_wp2_with fail
        refine (CF3.out _ HB.out).mono ?_
        rintro e w8 ⟨ac, cc, LC, rfl, hQ, hL, hb⟩
        obtain ⟨q1, q2, q3⟩ := U4.out
        have HQ3 : Hid ((LA ++ LB ++ LC).map Lp.p = L0.map Lp.p) := by show _ = _; rw [List.map_append, HQAB.out, hQ, HQ0.out, q1]
        have HFR : Hid (∀ q ∈ LC, Far 0 w8 (Value.slice g2 (LA.length + LB.length) k2).ownBlock q) := fun q hq => (Far.of_new (hL.2 q hq) (fr_lt HF2.out)).mono (Nat.zero_le _)
        have HLC := hide hL
        have HB := hide (below_step HB.out hb)
        have HL0 := hide (HL0.out.step hb)
        have HF3 := hide (HF2.out.step hb)
        have lenC : LA.length + LB.length + LC.length ≤ 900000000001 := by
          have e := congrArg List.length HQ3.out
          rw [List.length_map, List.length_map, List.length_append, List.length_append] at e
          omega
        subst q2 q3
        clear hQ hL hb q1 CF3 HF2 U4 HQAB HQ0
        go_wp2_with (at_builtin; refine wpPs rfl rfl _ _ rfl g2 (LA.length + LB.length) k2 rfl ac LC.length cc rfl LC rfl (List.length_append ..) (LA.length + LB.length + LC.length) rfl HF3.out HLC.out HFR.out lenC ?_)
        intro g3 k3 W9 hf3 hz
        have HC : Hid (Calls Tryd.prog 18 #[.slice g3 (LA.length + LB.length + LC.length) k3, .slice ao L0.length co] W9 fun e w' => e = .returned (.bool true) ∧ Below W9.heap.size W9 w') := by
          have hf := hf3
          rw [← List.append_assoc] at hf
          have hl : LA.length + LB.length + LC.length = (LA ++ LB ++ LC).length := by rw [List.length_append, List.length_append]
          rw [hl] at hf
          have := samePks_yes (LA ++ LB ++ LC) L0 g3 ao k3 co W9 hf.lies (HL5.out.step hf3.bel) HQ3.out (fun q hq => by
            have : q.p ∈ L0.map Lp.p := by rw [← HQ3.out]; exact List.mem_map_of_mem hq
            obtain ⟨q', hq', e⟩ := List.mem_map.1 this
            rw [← e]; exact HR0.out q' hq') (by rw [← hl]; exact lenC)
          rwa [← hl] at this
        have HB9 := hide (below_step HB5.out hf3.bel)
        clear hf3 hz HF3 HLC HFR HL0 HL5 HB HB5
        go_wp2_with fail
        refine HC.out.mono ?_
        rintro e w10 ⟨rfl, hb⟩
        have HBE := hide (below_step HB9.out hb)
        clear hb HC HB9
        go_wp2
        go_ret
        exact ⟨rfl, HBE.out⟩
      · have hg' : (e2 != 0) = true := by simp [hg]
        obtain ⟨q1, q2, q3⟩ := U2.out hg
        subst q3
        have HC : Hid (Calls Tryd.prog 18 #[.slice g2 (LA.length + LB.length) k2, .slice ao L0.length co] W7 fun e w' => e = .returned (.bool true) ∧ Below W7.heap.size W7 w') := by
          have hf := HF2.out
          rw [← List.length_append] at hf
          have := samePks_yes (LA ++ LB) L0 g2 ao k2 co W7 hf.lies HL0.out (by rw [HQAB.out, HQ0.out, q1]) (fun q hq => R0.out.1 q.p (by rw [q1, ← HQAB.out]; exact List.mem_map_of_mem hq)) (by rw [List.length_append]; omega)
          rwa [List.length_append] at this
        clear q1 q2 hg U2 U3
        go_wp2_with fail
        refine HC.out.mono ?_
        rintro e w8 ⟨rfl, hb⟩
        have HB := hide (below_step HB.out hb)
        clear hb HC HL0 HF2
        go_wp2
        go_ret
        exact ⟨rfl, HB.out⟩
    · have hf' : (e1 != 0) = true := by simp [hf]
      obtain ⟨q1, q2, q3⟩ := Q1.out hf
      subst q3
      have HC := hide (samePks_yes LA L0 aa ao ca co w4 HLA.out HL0.out (by rw [HQA.out, HQ0.out, q1]) (fun q hq => R0.out.1 q.p (by rw [q1, ← HQA.out]; exact List.mem_map_of_mem hq)) (by
        have e := congrArg List.length HQA.out
        have e' := congrArg List.length HQ0.out
        rw [List.length_map] at e e'
        rw [q1] at e'
        omega))
      clear q1 q2 hf Q1 Q2 Q3
      go_wp2_with fail
      refine HC.out.mono ?_
      rintro e w5 ⟨rfl, hb⟩
      have HB := hide (below_step HB.out hb)
      clear hb HC HLA HL0
      go_wp2
      go_ret
      exact ⟨rfl, HB.out⟩
end Go.Proofs.YtgmjdelgocbcaabDoor
